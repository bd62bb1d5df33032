import PyProof.Rows.All
import Wide.All
import OpenK.AllK
import Wide.FinOn
import Lean
import PyProof.EqAt
import PyProof.EqKinds
import PyProof.TupleCall
import PyProof.NeKinds
import PyProof.ListMulRoad
import PyProof.TupleOps
import PyProof.FactsAll.tuple_2
import PyProof.Rows.SeqMore
import KE.KRevSl
import KE.KRevIter
import KE.KIntText
import PyProof.Rows.RuleB_lshift
import PyProof.Rows.StrJoin2
import PyProof.Rows.StrNews2
import PyProof.Rows.FStr
import PyProof.Rows.StrFromFirst
import PyProof.Rows.StrLawsPart
import PyProof.Rows.RegReprOcc
import PyProof.Rows.SetFrom
import PyProof.AutoSeq1
import OpenK.KRaise
import PyProof.Rows.Own
import OpenK.KOwn
import PyProof.ExcBaseAll.ValueError
import KE.KIsAll
import PyProof.ExcInit
import PyProof.ExcClass2
import OpenK.KCls
import OpenK.KWalk
import PySem.Challenge.RW_tierstore_k50_a_disk
set_option Elab.async false
set_option linter.all false
set_option maxRecDepth 100000
/-! THE HAND LAYER, for ints, bools, texts, own classes, LISTS and tuples (index, slices, in, append, pop ..), calls, loops. Paste it whole ahead of your own text; what your proof does not reach may be deleted. -/
namespace L2
open PySem PySem.Spec PyProof.Rows

/-- a key: an int or a str -/
abbrev Key := Sum Int Str
def keyIs : Key → Value → Bool
  | .inl k, v => Value.isInt k v
  | .inr x, v => Value.isStrOf x v
def keyH (w : World) : Key → Int
  | .inl k => hashInt k
  | .inr x => hashStr w x
theorem keyIs_shape : ∀ {k : Key} {v : Value}, keyIs k v = true → (∃ i t, k = Sum.inl i ∧ v = Value.int i t) ∨ (∃ x t, k = Sum.inr x ∧ v = Value.str x t)
  | .inl i, v, h => by
    obtain ⟨t, e⟩ := Value.isInt_shape (k := i) (v := v) h
    exact .inl ⟨i, t, rfl, e⟩
  | .inr x, v, h => by
    obtain ⟨t, e⟩ := Value.isStrOf_shape (x := x) (v := v) h
    exact .inr ⟨x, t, rfl, e⟩
theorem keyIs_int (i : Int) (t : Tok) : keyIs (.inl i) (.int i t) = true := by simp [keyIs, Value.isInt]
theorem keyIs_str (x : Str) (t : Tok) : keyIs (.inr x) (.str x t) = true := by simp [keyIs, Value.isStrOf]
theorem key_ll (a b : Int) : decide ((Sum.inl a : Key) = Sum.inl b) = (a == b) := by
  by_cases e : a = b
  · subst e; simp
  · have h : ¬ (Sum.inl a : Key) = Sum.inl b := fun q => e (Sum.inl.inj q)
    rw [decide_eq_false h]
    exact (beq_eq_false_iff_ne.mpr e).symm
theorem key_rr (a b : Str) : decide ((Sum.inr a : Key) = Sum.inr b) = decide (a = b) := by
  by_cases e : a = b
  · subst e; simp
  · have h : ¬ (Sum.inr a : Key) = Sum.inr b := fun q => e (Sum.inr.inj q)
    rw [decide_eq_false h, decide_eq_false e]
theorem key_lr (a : Int) (b : Str) : decide ((Sum.inl a : Key) = Sum.inr b) = false := decide_eq_false (fun q => nomatch q)
theorem key_rl (a : Str) (b : Int) : decide ((Sum.inr a : Key) = Sum.inl b) = false := decide_eq_false (fun q => nomatch q)

def mixKind (prog : Program) (w : World) : PySem.KeyKind prog w Key where
  is := keyIs
  hash := keyH w
  inj := fun v a b ha hb => by
    rcases keyIs_shape ha with ⟨i, t, rfl, rfl⟩ | ⟨x, t, rfl, rfl⟩
    · rcases keyIs_shape hb with ⟨j, u, rfl, e⟩ | ⟨y, u, rfl, e⟩
      · injection e with e1 _; rw [e1]
      · exact nomatch e
    · rcases keyIs_shape hb with ⟨j, u, rfl, e⟩ | ⟨y, u, rfl, e⟩
      · exact nomatch e
      · injection e with e1 _; rw [e1]
  byValue := fun k v h => by
    rcases keyIs_shape h with ⟨i, t, rfl, rfl⟩ | ⟨x, t, rfl, rfl⟩ <;> rfl
  pyHash := fun hv h => by
    rcases keyIs_shape hv with ⟨i, t, rfl, rfl⟩ | ⟨x, t, rfl, rfl⟩
    · exact wpAny_pyHash_int h
    · exact wpAny_pyHash_str h
  eqBool := fun hu hv h => by
    rcases keyIs_shape hu with ⟨i, t, rfl, rfl⟩ | ⟨x, t, rfl, rfl⟩
    · rcases keyIs_shape hv with ⟨j, u, rfl, rfl⟩ | ⟨y, u, rfl, rfl⟩
      · rw [key_ll] at h; exact wpAny_eqBool_int h
      · rw [key_lr] at h; exact SeqAt.EqAt.int_str i t y u _ _ _ _ h
    · rcases keyIs_shape hv with ⟨j, u, rfl, rfl⟩ | ⟨y, u, rfl, rfl⟩
      · rw [key_rl] at h; exact SeqAt.EqAt.str_int x t j u _ _ _ _ h
      · rw [key_rr] at h; exact wpAny_eqBool_str h
  «strs» := fun k x t v h => by
    rcases keyIs_shape h with ⟨i, u, rfl, e⟩ | ⟨y, u, rfl, e⟩
    · exact nomatch e
    · injection e with e1 _
      subst e1
      cases v <;> rfl

theorem mixKind_int (prog : Program) (w : World) (i : Int) (t : Tok) : (mixKind prog w).is (.inl i) (.int i t) = true := keyIs_int i t
theorem mixKind_str (prog : Program) (w : World) (x : Str) (t : Tok) : (mixKind prog w).is (.inr x) (.str x t) = true := keyIs_str x t
end L2

namespace L2
open PySem PySem.Spec PyProof.Rows

/-- a value, without the heap -/
inductive V where
  | non | bl (b : Bool) | int (i : Int) | str (x : Str) | byt (b : Array UInt8) | flt (b : UInt64) | ref (a : Addr) | ty (n : String)
  deriving DecidableEq

def RelV : V → Value → Prop
  | .non, u => u = Value.none
  | .bl b, u => u = Value.bool b
  | .int i, u => ∃ t, u = Value.int i t
  | .str x, u => ∃ t, u = Value.str x t
  | .byt b, u => ∃ t, u = Value.bytes b t
  | .flt b, u => ∃ t, u = Value.float b t
  | .ref a, u => u = Value.ref a
  | .ty n, u => u = Value.type n

abbrev Vals : List V → List Value → Prop := Paired RelV
theorem Vals.length {xs : List V} {us : List Value} (r : Vals xs us) : xs.length = us.length := Paired.length r
theorem Vals.get : ∀ {xs : List V} {us : List Value} {i : Nat} {x : V}, Vals xs us → xs[i]? = some x → ∃ u, us[i]? = some u ∧ RelV x u
  | _, _, _, _, .nil, e => by simp at e
  | _, _, 0, _, .cons r _, e => by simp at e; subst e; exact ⟨_, rfl, r⟩
  | _, _, i + 1, x, .cons _ t, e => by
    obtain ⟨u, h1, h2⟩ := Vals.get (i := i) (x := x) t (by simpa using e)
    exact ⟨u, by simpa using h1, h2⟩
theorem Vals.set {x : V} {u : Value} (r : RelV x u) : ∀ {xs : List V} {us : List Value} (i : Nat), Vals xs us → Vals (xs.set i x) (us.set i u)
  | _, _, _, .nil => .nil
  | _, _, 0, .cons _ t => .cons r t
  | _, _, i + 1, .cons q t => .cons q (Vals.set r i t)
theorem Vals.append : ∀ {xs ys : List V} {us ws : List Value}, Vals xs us → Vals ys ws → Vals (xs ++ ys) (us ++ ws)
  | _, _, _, _, .nil, s => s
  | _, _, _, _, .cons r t, s => .cons r (Vals.append t s)
theorem Vals.take : ∀ {xs : List V} {us : List Value} (n : Nat), Vals xs us → Vals (xs.take n) (us.take n)
  | _, _, 0, _ => .nil
  | _, _, _ + 1, .nil => .nil
  | _, _, n + 1, .cons r t => .cons r (Vals.take n t)
theorem Vals.drop : ∀ {xs : List V} {us : List Value} (n : Nat), Vals xs us → Vals (xs.drop n) (us.drop n)
  | _, _, 0, r => r
  | _, _, _ + 1, .nil => .nil
  | _, _, n + 1, .cons _ t => Vals.drop n t
theorem Vals.none_of : ∀ {xs : List V} {us : List Value} {i : Nat}, Vals xs us → xs[i]? = none → us[i]? = none := fun {xs us i} r e => by
  have h1 := r.length
  have h2 : xs.length ≤ i := List.getElem?_eq_none_iff.mp e
  exact List.getElem?_eq_none_iff.mpr (by omega)

def RelO : Option V → Option Value → Prop
  | some v, some u => RelV v u
  | none, none => True
  | _, _ => False
def KV {κ : Type} : List (κ × V) → List (κ × Value) → Prop := Paired fun (p : κ × V) (q : κ × Value) => p.1 = q.1 ∧ RelV p.2 q.2

/-- a key of a dict (00_mix): an int or a text -/
def kV : Key → V
  | .inl i => .int i
  | .inr x => .str x

/-- what stands at a tracked address -/
inductive HO where
  /-- a list -/
  | lst (xs : List V)
  /-- a tuple (never changes) -/
  | tup (xs : List V)
  /-- a dict whose keys are ints and texts; one whose keys are tuples of ints and texts (the empty one is both) -/
  | dK (kvs : List (Key × V)) | dT (kvs : List (List Key × V))
  /-- a set of ints: its members, its size -/
  | set (S : Int → Bool) (n : Nat)
  /-- an instance of the class at C, its dict at dx, its attributes -/
  | ins (C dx : Addr) (fs : List (Str × V))
  /-- the dict of the instance at x -/
  | own (x : Addr)
  /-- the dict of an exception -/
  | xd (fs : List (Str × V))
  /-- a bound method, f of x -/
  | met (f x : Addr)
  /-- a range object lo, lo + 1, .. below hi -/
  | rng (lo hi : Int)
  /-- a thing that is known to the object (the script; a dict while a loop walks it): read, never written while it is so -/
  | frz (o : Obj) (u : HO)
  /-- a code object's table -/
  | tbl (ps : Array Value)
  /-- any other thing, by what is true of its one object (a def of one's own: SetO a S n := HO.ext fun h => ..) -/
  | ext (φ : Heap → Prop)

abbrev Hp := Addr → Option HO
def upd (H : Hp) (a : Addr) (o : HO) : Hp := fun b => if b = a then some o else H b
theorem upd_same {H : Hp} {a : Addr} {o : HO} : upd H a o a = some o := by unfold upd; rw [if_pos rfl]
theorem upd_ne {H : Hp} {a b : Addr} {o : HO} (h : b ≠ a) : upd H a o b = H b := by unfold upd; rw [if_neg h]
theorem upd_upd {H : Hp} {a : Addr} {o u : HO} : upd (upd H a o) a u = upd H a u := by
  funext b; unfold upd; split <;> rfl
/-- two objects of different content stand apart -/
theorem ne_of {H : Hp} {a b : Addr} {o u : HO} (h : H a = some o) (h' : H b = some u) (d : o ≠ u) : a ≠ b := by
  intro e; subst e; rw [h] at h'; exact d (Option.some.inj h')
theorem ne_of_none {H : Hp} {a b : Addr} {o : HO} (h : H a = some o) (h' : H b = none) : a ≠ b := by
  intro e; subst e; rw [h] at h'; cases h'

section
variable (P : Program) (w : World)
def ObjOk (H : Hp) (h : Heap) (a : Addr) : HO → Prop
  | .lst xs => xs.length ≤ sizeLine ∧ ∃ (its : List Value) (n : Nat), Vals xs its ∧ h.get? a = some { cls := .type "list", data := .seq its.toArray n }
  | .tup xs => xs.length ≤ sizeLine ∧ ∃ its : List Value, Vals xs its ∧ IsTup h a its.toArray
  | .dK kvs => kvs.length ≤ sizeLine ∧ (a == sysModules) = false ∧ ∃ vs, KV kvs vs ∧ h.DictOf (mixKind P w) a vs
  | .dT kvs => kvs.length ≤ sizeLine ∧ (a == sysModules) = false ∧ ∃ xs : List (List Key × Addr × Value),
      Paired (fun (p : List Key × V) (q : List Key × Addr × Value) => p.1 = q.1 ∧ H q.2.1 = some (.tup (p.1.map kV)) ∧ RelV p.2 q.2.2) kvs xs ∧
      ∃ o es ep, h.get? a = some o ∧ o.ExactDict ∧ o.data = .dict es ep ∧ es.toList = xs.map (entryOfKey (tupleKind (mixKind P w))) ∧ (xs.map (·.1)).Nodup
  | .set S n => h.SetOf (intKind P w) a S n
  | .ins C dx fs => H dx = some (.own a) ∧ fs.length ≤ 1000 ∧ dx ≠ a ∧ h.get? a = some (PySem.W.instObj C dx) ∧
      ∃ mA, h.Ns1 dx mA ∧ (∀ f, RelO (fs.lookup f) (mA f)) ∧ PySem.Within mA (fs.map (·.1))
  | .own _ => ∃ o, h.get? a = some o
  | .xd fs => ∃ mA, h.Ns1 a mA ∧ ∀ f, RelO (fs.lookup f) (mA f)
  | .rng lo hi => ∃ t u v, h.get? a = some { cls := .type "range", data := .fields #[.int lo t, .int hi u, .int 1 v] }
  | .frz o u => h.get? a = some o ∧ ObjOk H h a u
  | .tbl ps => h.get? a = some { cls := .none, data := .fields ps }
  | .met f x => h.get? a = some (PySem.W.methodObj (.ref f) (.ref x))
  | .ext φ => φ h ∧ (∃ o, h.get? a = some o) ∧ ∀ h1 h2 : Heap, φ h1 → (∀ o, h1.get? a = some o → h2.get? a = some o) → φ h2
/-- the abstract heap is held -/
def HOk (H : Hp) (h : Heap) : Prop := ∀ a o, H a = some o → ObjOk P w H h a o
end

section
variable {P : Program} {w : World} {H H' : Hp} {h h' : Heap} {a : Addr} {o : HO}
theorem ObjOk.lt (x : ObjOk P w H h a o) : a < h.objs.size := by
  cases o with
  | lst xs => obtain ⟨_, _, _, _, e⟩ := x; exact Heap.lt_size e
  | tup xs => obtain ⟨_, _, _, p⟩ := x; exact p.lt
  | dK kvs => obtain ⟨_, _, _, _, o, _, _, e, _⟩ := x; exact Heap.lt_size e
  | dT kvs => obtain ⟨_, _, _, _, o, _, _, e, _⟩ := x; exact Heap.lt_size e
  | set S n => obtain ⟨o, _, _, _, e, _⟩ := x; exact Heap.lt_size e
  | ins C dx fs => obtain ⟨_, _, _, e, _⟩ := x; exact Heap.lt_size e
  | own y => obtain ⟨_, e⟩ := x; exact Heap.lt_size e
  | xd fs => obtain ⟨_, ⟨_, _, _, e, _⟩, _⟩ := x; exact Heap.lt_size e
  | rng lo hi => obtain ⟨_, _, _, e⟩ := x; exact Heap.lt_size e
  | frz ob u => obtain ⟨e, _⟩ := x; exact Heap.lt_size e
  | tbl ps => exact Heap.lt_size (show h.get? a = some _ from x)
  | met f y => exact Heap.lt_size (show h.get? a = some _ from x)
  | ext φ => obtain ⟨_, ⟨_, e⟩, _⟩ := x; exact Heap.lt_size e
theorem Paired.mapP {α β : Type} {F G : α → β → Prop} : ∀ {l₁ : List α} {l₂ : List β}, Paired F l₁ l₂ → (∀ a b, F a b → G a b) → Paired G l₁ l₂
  | _, _, .nil, _ => .nil
  | _, _, .cons r t, f => .cons (f _ _ r) (Paired.mapP t f)
/-- what an object's description leans on: its own object, its own dict, the tuples -/
theorem ObjOk.stay (x : ObjOk P w H h a o) (k : ∀ b u, (b = a ∨ H b = some (.own a)) → h.get? b = some u → h'.get? b = some u)
    (ho : ∀ b, H b = some (.own a) → H' b = some (.own a)) (ht : ∀ b xs, H b = some (.tup xs) → H' b = some (.tup xs)) : ObjOk P w H' h' a o := by
  induction o with
  | lst xs => obtain ⟨z, its, n, r, e⟩ := x; exact ⟨z, its, n, r, k _ _ (.inl rfl) e⟩
  | tup xs => obtain ⟨z, its, r, ob, e, c⟩ := x; exact ⟨z, its, r, ob, k _ _ (.inl rfl) e, c⟩
  | dK kvs => obtain ⟨z, y, vs, r, ob, es, ep, e, c⟩ := x; exact ⟨z, y, vs, r, ob, es, ep, k _ _ (.inl rfl) e, c⟩
  | dT kvs =>
    obtain ⟨z, y, xs, r, ob, es, ep, e, c⟩ := x
    exact ⟨z, y, xs, Paired.mapP r fun p q z => ⟨z.1, ht _ _ z.2.1, z.2.2⟩, ob, es, ep, k _ _ (.inl rfl) e, c⟩
  | set S n => obtain ⟨ob, es, ep, t, e, c⟩ := x; exact ⟨ob, es, ep, t, k _ _ (.inl rfl) e, c⟩
  | ins C dx fs =>
    obtain ⟨d, z, ne, e, mA, ⟨od, es, ep, e2, c⟩, r⟩ := x
    exact ⟨ho _ d, z, ne, k _ _ (.inl rfl) e, mA, ⟨od, es, ep, k _ _ (.inr d) e2, c⟩, r⟩
  | own y => obtain ⟨ob, e⟩ := x; exact ⟨ob, k _ _ (.inl rfl) e⟩
  | xd fs => obtain ⟨mA, ⟨od, es, ep, e, c⟩, r⟩ := x; exact ⟨mA, ⟨od, es, ep, k _ _ (.inl rfl) e, c⟩, r⟩
  | rng lo hi => obtain ⟨t, u, v, e⟩ := x; exact ⟨t, u, v, k _ _ (.inl rfl) e⟩
  | frz ob u ih => obtain ⟨e, q⟩ := x; exact ⟨k _ _ (.inl rfl) e, ih q⟩
  | tbl ps =>
    have e : h.get? a = some { cls := .none, data := .fields ps } := x
    show h'.get? a = some { cls := .none, data := .fields ps }
    exact k a _ (.inl rfl) e
  | met f y =>
    have e : h.get? a = some (PySem.W.methodObj (.ref f) (.ref y)) := x
    show h'.get? a = some (PySem.W.methodObj (.ref f) (.ref y))
    exact k a _ (.inl rfl) e
  | ext φ => obtain ⟨p, ⟨o, e⟩, st⟩ := x; exact ⟨st _ _ p fun o q => k _ _ (.inl rfl) q, ⟨o, k _ _ (.inl rfl) e⟩, st⟩
theorem HOk.lt (x : HOk P w H h) (e : H a = some o) : a < h.objs.size := (x a o e).lt
theorem HOk.fresh (x : HOk P w H h) (e : h.objs.size ≤ a) : H a = none := by
  cases q : H a with
  | none => rfl
  | some u => exact absurd (Nat.lt_of_lt_of_le (x.lt q) e) (Nat.lt_irrefl _)
/-- every object of the heap is kept -/
theorem HOk.kept (x : HOk P w H h) (k : ∀ b u, h.get? b = some u → h'.get? b = some u) : HOk P w H h' := fun a o e =>
  (x a o e).stay (fun b u _ q => k b u q) (fun _ q => q) fun _ _ q => q
/-- a new object is laid and tracked -/
theorem HOk.laid (x : HOk P w H h) (k : ∀ b u, h.get? b = some u → h'.get? b = some u) (hp : h.objs.size ≤ a) (new : ObjOk P w (upd H a o) h' a o) : HOk P w (upd H a o) h' := fun b u e => by
  have hn := x.fresh hp
  by_cases hb : b = a
  · subst hb; rw [upd_same] at e; cases e; exact new
  · rw [upd_ne hb] at e
    exact (x b u e).stay (fun c v _ q => k c v q) (fun c q => by rw [upd_ne (ne_of_none q hn)]; exact q) fun c xs q => by rw [upd_ne (ne_of_none q hn)]; exact q
end

/-- what may be read as u: it is u, or a known u -/
def Rd (H : Hp) (a : Addr) (u : HO) : Prop := H a = some u ∨ ∃ o, H a = some (.frz o u)
theorem Rd.of {H : Hp} {a : Addr} {u : HO} (h : H a = some u) : Rd H a u := .inl h
theorem Rd.ok {P : Program} {w : World} {H : Hp} {h : Heap} {a : Addr} {u : HO} (r : Rd H a u) (x : HOk P w H h) : ObjOk P w H h a u := by
  rcases r with r | ⟨o, r⟩
  · exact x a u r
  · obtain ⟨_, q⟩ := x a _ r
    exact q
/-- what may be written -/
def Mut : Option HO → Prop
  | some (.lst _) => True
  | some (.dK _) => True
  | some (.dT _) => True
  | some (.set _ _) => True
  | some (.ins _ _ _) => True
  | some (.ext _) => True
  | _ => False
section
variable {P : Program} {w : World} {H : Hp} {h h' : Heap} {x e : Addr} {o' : HO}
/-- the object at e is changed: x itself, or the dict of the instance x -/
theorem HOk.write (ok : HOk P w H h) (mu : Mut (H x)) (he : e = x ∨ H e = some (.own x)) (k : ∀ b u, b ≠ e → h.get? b = some u → h'.get? b = some u) (heo : ∃ u, h'.get? e = some u)
    (new : ObjOk P w (upd H x o') h' x o') : HOk P w (upd H x o') h' := fun b u q => by
  have nown : ∀ c y, H c = some (.own y) → c ≠ x := fun c y r z => by subst z; rw [r] at mu; exact mu
  have ntup : ∀ c xs, H c = some (.tup xs) → c ≠ x := fun c xs r z => by subst z; rw [r] at mu; exact mu
  by_cases hb : b = x
  · subst hb; rw [upd_same] at q; cases q; exact new
  · rw [upd_ne hb] at q
    by_cases hbe : b = e
    · have q' : H b = some (.own x) := by
        rcases he with z | z
        · exact absurd (hbe.trans z) hb
        · rw [hbe]; exact z
      rw [q] at q'; cases q'
      obtain ⟨v, hv⟩ := heo
      exact ⟨v, by rw [hbe]; exact hv⟩
    · refine (ok b u q).stay (fun c v hc r => k c v ?_ r) (fun c r => by rw [upd_ne (nown c b r)]; exact r) fun c xs r => by rw [upd_ne (ntup c xs r)]; exact r
      rcases hc with rfl | hc
      · exact hbe
      · rintro rfl
        rcases he with z | z
        · exact nown c b hc z
        · rw [hc] at z; cases z; exact hb rfl
end

/-! ### kept unless tracked; of the frames at fs (the callers') the slots may change (an exception that passes writes there); of the records at ex (iterators) nothing is said -/
structure Un (fs ex : List Addr) (H H' : Hp) (h h' : Heap) : Prop where
  keep : ∀ b o, h.get? b = some o → H b = none → b ∉ fs → b ∉ ex → h'.get? b = some o
  slot : ∀ b o, h.get? b = some o → H b = none → b ∈ fs → b ∉ ex → ∃ sl, h'.get? b = some { o with slots := sl }
  free : ∀ b o, h.get? b = some o → H b = none → b ∉ ex → H' b = none
  there : ∀ b o, h.get? b = some o → b ∉ ex → ∃ o', h'.get? b = some o'
  tups : ∀ b xs, H b = some (.tup xs) → H' b = some (.tup xs)
  frzs : ∀ b o u, H b = some (.frz o u) → H' b = some (.frz o u)
  tbls : ∀ b ps, H b = some (.tbl ps) → ∃ more, H' b = some (.tbl (ps ++ more))
section
variable {fs fs' ex ex' : List Addr} {H H1 H2 : Hp} {h h1 h2 h' : Heap} {a x e : Addr} {o : HO}
theorem Un.any (u : Un fs ex H H1 h h1) {b : Addr} {ob : Obj} (q : h.get? b = some ob) (n : H b = none) (hx : b ∉ ex) : ∃ sl, h1.get? b = some { ob with slots := sl } := by
  by_cases hb : b ∈ fs
  · exact u.slot b ob q n hb hx
  · exact ⟨ob.slots, u.keep b ob q n hb hx⟩
theorem Un.trans (a : Un fs ex H H1 h h1) (b : Un fs ex H1 H2 h1 h2) : Un fs ex H H2 h h2 where
  keep := fun c ob q n hc hx => b.keep c ob (a.keep c ob q n hc hx) (a.free c ob q n hx) hc hx
  slot := fun c ob q n hc hx => by
    obtain ⟨sl, e1⟩ := a.slot c ob q n hc hx
    obtain ⟨sl', e2⟩ := b.slot c _ e1 (a.free c ob q n hx) hc hx
    exact ⟨sl', e2⟩
  free := fun c ob q n hx => by
    obtain ⟨o', e1⟩ := a.there c ob q hx
    exact b.free c o' e1 (a.free c ob q n hx) hx
  there := fun c ob q hx => by
    obtain ⟨o', e1⟩ := a.there c ob q hx
    exact b.there c o' e1 hx
  tups := fun c xs q => b.tups c xs (a.tups c xs q)
  frzs := fun c ob xs q => b.frzs c ob xs (a.frzs c ob xs q)
  tbls := fun c ps q => by
    obtain ⟨m1, e1⟩ := a.tbls c ps q
    obtain ⟨m2, e2⟩ := b.tbls c _ e1
    exact ⟨m1 ++ m2, by rw [e2, Array.append_assoc]⟩
theorem Un.kept (k : ∀ b u, h.get? b = some u → h'.get? b = some u) : Un fs ex H H h h' :=
  ⟨fun b ob q _ _ _ => k b ob q, fun b ob q _ _ _ => ⟨ob.slots, k b ob q⟩, fun _ _ _ n _ => n, fun b ob q _ => ⟨ob, k b ob q⟩, fun _ _ q => q, fun _ _ _ q => q, fun _ ps q => ⟨#[], by rw [q]; simp⟩⟩
theorem Un.refl : Un fs ex H H h h := Un.kept fun _ _ q => q
theorem Un.laid (k : ∀ b u, h.get? b = some u → h'.get? b = some u) (hp : h.objs.size ≤ a) (hn : H a = none) : Un fs ex H (upd H a o) h h' where
  keep := fun b u q _ _ _ => k b u q
  slot := fun b u q _ _ _ => ⟨u.slots, k b u q⟩
  free := fun b u q n _ => by rw [upd_ne (Nat.ne_of_lt (Nat.lt_of_lt_of_le (Heap.lt_size q) hp))]; exact n
  there := fun b u q _ => ⟨u, k b u q⟩
  tups := fun b xs q => by rw [upd_ne (ne_of_none q hn)]; exact q
  frzs := fun b u xs q => by rw [upd_ne (ne_of_none q hn)]; exact q
  tbls := fun b ps q => ⟨#[], by rw [upd_ne (ne_of_none q hn), q]; simp⟩
theorem Un.write (mu : Mut (H x)) (he : e = x ∨ H e = some (.own x)) (k : ∀ b u, b ≠ e → h.get? b = some u → h'.get? b = some u) (heo : ∃ u, h'.get? e = some u) : Un fs ex H (upd H x o) h h' := by
  have hx : ∀ b, H b = none → b ≠ x := fun b n z => by subst z; rw [n] at mu; exact mu
  have hb : ∀ b, H b = none → b ≠ e := fun b n z => by
    subst z
    rcases he with r | r
    · exact hx b n r
    · rw [n] at r; cases r
  have hm : ∀ b u, H b = some u → ¬ Mut (some u) → b ≠ x := fun b u q nm z => by subst z; rw [q] at mu; exact nm mu
  refine ⟨fun b u q n _ _ => k b u (hb b n) q, fun b u q n _ _ => ⟨u.slots, k b u (hb b n) q⟩, fun b u q n _ => by rw [upd_ne (hx b n)]; exact n, fun b u q _ => ?_,
    fun b xs q => by rw [upd_ne (hm b _ q fun z => z)]; exact q, fun b u xs q => by rw [upd_ne (hm b _ q fun z => z)]; exact q, fun b ps q => ⟨#[], by rw [upd_ne (hm b _ q fun z => z), q]; simp⟩⟩
  by_cases hbe : b = e
  · subst hbe; exact heo
  · exact ⟨u, k b u hbe q⟩
theorem Un.mono (u : Un fs ex H H1 h h1) (hs : ∀ b ∈ fs, b ∈ fs') (hx : ∀ b ∈ ex, b ∈ ex') : Un fs' ex' H H1 h h1 :=
  ⟨fun b ob q n hb he => u.keep b ob q n (fun z => hb (hs b z)) fun z => he (hx b z), fun _ _ q n _ he => u.any q n fun z => he (hx _ z), fun b ob q n he => u.free b ob q n fun z => he (hx b z), fun b ob q he => u.there b ob q fun z => he (hx b z), u.tups, u.frzs, u.tbls⟩
end

/-! ### the heap without what is tracked -/
def trk (h : Heap) (H : Hp) : List Addr := (List.range h.objs.size).filter fun a => (H a).isSome
def hidT (h : Heap) (H : Hp) : Heap := PySem.W.hideAll h (trk h H)
theorem hidT_size (h : Heap) (H : Hp) : (hidT h H).objs.size = h.objs.size := PySem.W.hideAll_size _ _
theorem hidT_get {h : Heap} {H : Hp} {b : Addr} {o : Obj} (e : h.get? b = some o) (n : H b = none) : (hidT h H).get? b = some o :=
  PySem.W.hideAll_get _ e fun hm => by
    have q : (H b).isSome = true := (List.mem_filter.mp hm).2
    rw [n] at q; simp at q
theorem of_hidT {h : Heap} {H : Hp} {b : Addr} {o : Obj} (e : (hidT h H).get? b = some o) : h.get? b = some o ∧ H b = none := by
  have e' : h.get? b = some o := PySem.W.of_hideAll (trk h H) e
  refine ⟨e', ?_⟩
  cases q : H b with
  | none => rfl
  | some x =>
    have hm : b ∈ trk h H := List.mem_filter.mpr ⟨List.mem_range.mpr (Heap.lt_size e'), by simp [q]⟩
    have z : (hidT h H).get? b = none := PySem.W.hideAll_none (trk h H) hm
    rw [z] at e; cases e

/-! ### OpenK's ledger, filled with every new object but one -/
def allNews (g h : Heap) (L : Addr) : List (Addr × Obj) := (List.range h.objs.size).filterMap fun a => if a = L ∨ (g.get? a).isSome = true then none else (h.get? a).map fun o => (a, o)
def rest (g h : Heap) (L d : Addr) : List (Addr × Obj) := (allNews g h L).filter fun p => decide (p.1 ≠ d)
end L2

namespace L2
open PySem PySem.Spec PyProof.Rows

/-- the module's facts, over the base: the heap at the law's entry without what is tracked there -/
structure Mod (K : PySem.W.Frag) (mg : Str → Option Value) (base : Heap) : Prop where
  kin : K.In base
  glob : base.Ns mainGlobals mg
  blt : ∃ mb, base.Ns builtinsNs mb ∧ ∀ x : Str, x ≠ "__name__" → mb x = bootBuiltins x
  nolimit : base.NoLimit

/-- the context: a def's body (or a comprehension's block) running. base: fixed through the whole law; s₀, H₀: the entry; outer: the frames whose slots others may change (a def's callers); stack: all frames that run;
   ex: iterators that were made ahead of the entry and are walked here (a comprehension's); fn: the names whose cells were made at the entry (a def: all; a comprehension's block: its own); calm: not within an except suite; pn: pins that every state bears; xe: what is wanted of an exception that leaves the code -/
structure Cx where
  prog : Program
  w : World
  K : PySem.W.Frag
  mg : Str → Option Value
  base : Heap
  A : Around
  N : List Str
  s₀ : Shared
  H₀ : Hp
  env : Env
  outer : List Env
  stack : List Env
  ex : List Addr
  fn : Str → Bool
  calm : Bool
  pn : List (Addr × Obj)
  xe : Value → Shared → Prop
/-- the callers' frames -/
def frs (l : List Env) : List Addr := l.filterMap (·.frame)
abbrev Cx.fs (X : Cx) : List Addr := frs X.outer

def Vis (sc : Scope) (x : Str) : Prop := sc.names.lookup x = some .local ∨ sc.names.lookup x = some .cell ∨ sc.names.lookup x = some .free
def Loc (sc : Scope) (x : Str) : Prop := sc.names.lookup x = some .local ∨ sc.names.lookup x = some .cell
def Look (env : Env) (h : Heap) (m : Str → Option Value) (x : Str) (u : Value) : Prop :=
  (env.kindOf x = some .local ∧ m x = some u) ∨ ((env.kindOf x = some .cell ∨ env.kindOf x = some .free) ∧ ∃ c, env.cells.lookup x = some c ∧ h.IsCell c (some u))

structure Cx.Ok (X : Cx) : Prop where
  mod : Mod X.K X.mg X.base
  kind : X.env.scope.kind = .function
  glob : X.env.globals = mainGlobals
  blt : X.env.builtins = builtinsNs
  above : X.s₀.heap.objs.size ≤ X.env.locals
  inj : ∀ x y c, X.env.cells.lookup x = some c → X.env.cells.lookup y = some c → x = y
  has : ∀ x, (X.env.kindOf x = some .cell ∨ X.env.kindOf x = some .free) → ∃ c, X.env.cells.lookup x = some c
  cab : ∀ x c, X.fn x = true → X.env.cells.lookup x = some c → X.s₀.heap.objs.size ≤ c
  hd : X.calm = true → X.A.handled = none
  frames : X.A.frames = some X.stack
  stk : X.stack = X.outer ∨ (X.stack = X.env :: X.outer ∧ X.env.frame = some X.env.locals)
  exf : ∀ b ∈ X.ex, b ≠ X.env.locals ∧ ∀ x c, X.env.cells.lookup x = some c → c ≠ b
  bs : ∀ b o, X.base.get? b = some o → X.s₀.heap.get? b = some o ∧ X.H₀ b = none
  bsz : X.base.objs.size ≤ X.s₀.heap.objs.size
  noex : ∀ b o, X.base.get? b = some o → b ∉ X.ex
  exfs : ∀ b ∈ X.ex, b ∉ X.fs
  funs : X.s₀.heap.FunFrames X.base X.outer
  frf : ∀ b ∈ X.fs, X.H₀ b = none

structure Inv (X : Cx) (pins : List (Addr × Obj)) (σ : List (Option V)) (H : Hp) (s : Shared) : Prop where
  ok : X.Ok
  os : s.os = X.s₀.os
  bare : AllBare s.gens
  base : Un X.fs X.ex X.H₀ H X.s₀.heap s.heap
  loc : ∃ m, s.heap.Ns X.env.locals m ∧ ∀ (i : Nat) (x : Str) (v : V), X.N[i]? = some x → σ[i]? = some (some v) → Vis X.env.scope x → ∃ u, RelV v u ∧ Look X.env s.heap m x u
  cell : ∀ x c, X.env.cells.lookup x = some c → ∃ v, s.heap.IsCell c v
  free : H X.env.locals = none
  freeC : ∀ x c, X.env.cells.lookup x = some c → H c = none
  pin : ∀ p ∈ X.pn ++ pins, s.heap.get? p.1 = some p.2 ∧ H p.1 = none ∧ p.1 ≠ X.env.locals ∧ p.1 ∉ X.fs ∧ ∀ v, p.2.data ≠ .cell v
  hok : HOk X.prog X.w H s.heap
  len : σ.length = X.N.length

section
variable {X : Cx} {pins : List (Addr × Obj)} {σ : List (Option V)} {H H' : Hp} {s : Shared} {h' : Heap}

theorem Cx.Ok.nofr (ok : X.Ok) {b : Addr} {o : Obj} (e : X.base.get? b = some o) : b ∉ X.fs := fun hb => by
  have := (ok.funs.mem hb).1
  rw [e] at this; cases this
theorem Inv.bs (I : Inv X pins σ H s) : ∀ b o, X.base.get? b = some o → s.heap.get? b = some o ∧ H b = none := fun b o e =>
  ⟨I.base.keep b o (I.ok.bs b o e).1 (I.ok.bs b o e).2 (I.ok.nofr e) (I.ok.noex b o e), I.base.free b o (I.ok.bs b o e).1 (I.ok.bs b o e).2 (I.ok.noex b o e)⟩
theorem Inv.bk (I : Inv X pins σ H s) : ∀ b o, X.base.get? b = some o → s.heap.get? b = some o := fun b o e => (I.bs b o e).1
theorem Inv.mod (I : Inv X pins σ H s) : Mod X.K X.mg X.base := I.ok.mod
theorem Inv.kIn (I : Inv X pins σ H s) : X.K.In s.heap := I.ok.mod.kin.keeps I.bk
theorem Inv.nolimit (I : Inv X pins σ H s) : s.heap.NoLimit := I.ok.mod.nolimit.keeps I.bk
/-- the frame over the base: for OpenK's rules (K.In X.base is I.mod.kin) -/
theorem Inv.fr (I : Inv X pins σ H s) : ∃ m, Fr X.base X.env.locals s.heap m :=
  let ⟨m, hn, _⟩ := I.loc
  ⟨m, hn, I.bk, Nat.le_trans I.ok.bsz I.ok.above⟩
theorem Inv.lt (I : Inv X pins σ H s) : X.env.locals < s.heap.objs.size := let ⟨_, hn, _⟩ := I.loc; hn.lt
theorem Inv.sz (I : Inv X pins σ H s) : X.s₀.heap.objs.size ≤ s.heap.objs.size := Nat.le_trans I.ok.above (Nat.le_of_lt I.lt)
theorem Inv.nofs (I : Inv X pins σ H s) {a : Addr} (h : s.heap.objs.size ≤ a) : a ∉ X.fs := fun hb => by
  obtain ⟨_, o, ho, _⟩ := I.ok.funs.mem hb
  exact absurd (Nat.lt_of_lt_of_le (Heap.lt_size ho) (Nat.le_trans I.sz h)) (Nat.lt_irrefl _)
theorem Inv.cne (I : Inv X pins σ H s) : ∀ x c, X.env.cells.lookup x = some c → c ≠ X.env.locals := fun x c e z => by
  obtain ⟨v, o, ho, hd⟩ := I.cell x c e
  obtain ⟨m, ⟨o', es, ep, ho', hd', _⟩, _⟩ := I.loc
  rw [z, ho'] at ho; cases ho; rw [hd'] at hd; cases hd
theorem Inv.funs (I : Inv X pins σ H s) : s.heap.FunFrames X.base X.outer := by
  have all : ∀ (l : List Env), (∀ b ∈ frs l, b ∈ X.fs) → X.s₀.heap.FunFrames X.base l → s.heap.FunFrames X.base l := by
    intro l
    induction l with
    | nil => intro _ _; trivial
    | cons env r ih =>
      intro hs hl
      obtain ⟨hk, ⟨L, o, hf, hn, ho, hd⟩, hr⟩ := hl
      have hL : L ∈ X.fs := hs L (by unfold frs; rw [List.filterMap_cons, hf]; exact List.mem_cons_self)
      obtain ⟨sl, e⟩ := I.base.slot L o ho (I.ok.frf L hL) hL fun z => I.ok.exfs L z hL
      exact ⟨hk, ⟨L, _, hf, hn, e, hd⟩, ih (fun b hb => hs b (by unfold frs; rw [List.filterMap_cons, hf]; exact List.mem_cons_of_mem _ hb)) hr⟩
  exact all X.outer (fun _ hb => hb) I.ok.funs

/-- the frames that run, for a call -/
theorem Inv.stack (I : Inv X pins σ H s) : s.heap.FunFrames X.base X.stack := by
  rcases I.ok.stk with e | ⟨e, hf⟩
  · rw [e]; exact I.funs
  · rw [e]
    obtain ⟨m, hn, _⟩ := I.loc
    refine .cons (by rw [I.ok.kind]; decide) hf hn ?_ I.funs
    exact Heap.get?_none_of_le (Nat.le_trans I.ok.bsz I.ok.above)
theorem Inv.stkSub (I : Inv X pins σ H s) : ∀ b ∈ frs X.stack, b ∈ X.env.locals :: X.fs := fun b hb => by
  rcases I.ok.stk with e | ⟨e, hf⟩
  · rw [e] at hb; exact List.mem_cons_of_mem _ hb
  · rw [e] at hb
    unfold frs at hb
    rw [List.filterMap_cons, hf] at hb
    exact hb
theorem Inv.stkFree (I : Inv X pins σ H s) : ∀ b ∈ frs X.stack, H b = none := fun b hb => by
  rcases List.mem_cons.mp (I.stkSub b hb) with e | hb
  · rw [e]; exact I.free
  · obtain ⟨_, o, ho, _⟩ := I.ok.funs.mem hb
    exact I.base.free b o ho (I.ok.frf b hb) fun z => I.ok.exfs b z hb

/-- THE STEP: the untracked objects but the frame and the records at ch are kept (the callers' frames up to slots), the frame's map is kept, the new abstract heap is held -/
theorem Inv.step {g' : Array GenState} {t' : Nat} {d' : Drawn} {ch : List Addr} (I : Inv X pins σ H s)
    (hch : ∀ b ∈ ch, (b ∈ X.ex ∨ X.s₀.heap.objs.size ≤ b) ∧ b ≠ X.env.locals ∧ (∀ x c, X.env.cells.lookup x = some c → c ≠ b) ∧ ∀ p ∈ X.pn ++ pins, p.1 ≠ b)
    (keep : ∀ b o, b ≠ X.env.locals → b ∉ X.fs → b ∉ ch → s.heap.get? b = some o → H b = none → h'.get? b = some o)
    (slot : ∀ b o, b ≠ X.env.locals → b ∈ X.fs → b ∉ ch → s.heap.get? b = some o → H b = none → ∃ sl, h'.get? b = some { o with slots := sl }) (free : ∀ b o, b ∉ ch → s.heap.get? b = some o → H b = none → H' b = none)
    (there : ∀ b o, b ∉ ch → s.heap.get? b = some o → ∃ o', h'.get? b = some o')
    (tups : ∀ b xs, H b = some (.tup xs) → H' b = some (.tup xs)) (frzs : ∀ b o u, H b = some (.frz o u) → H' b = some (.frz o u)) (tbls : ∀ b ps, H b = some (.tbl ps) → ∃ more, H' b = some (.tbl (ps ++ more)))
    (ns : ∀ m, s.heap.Ns X.env.locals m → h'.Ns X.env.locals m) (hok : HOk X.prog X.w H' h') (hg : AllBare g') :
    Inv X pins σ H' { s with heap := h', gens := g', drawn := d', toks := t' } := by
  have neL : ∀ b o, X.s₀.heap.get? b = some o → b ≠ X.env.locals := fun b o e => Nat.ne_of_lt (Nat.lt_of_lt_of_le (Heap.lt_size e) I.ok.above)
  have neC : ∀ b o, X.s₀.heap.get? b = some o → b ∉ X.ex → b ∉ ch := fun b o e hx hb => by
    rcases (hch b hb).1 with z | z
    · exact hx z
    · exact absurd (Nat.lt_of_lt_of_le (Heap.lt_size e) z) (Nat.lt_irrefl _)
  have cellK : ∀ x c, X.env.cells.lookup x = some c → ∀ v, s.heap.IsCell c v → h'.IsCell c v := fun x c e v ⟨o, ho, hd⟩ => by
    have nch : c ∉ ch := fun z => (hch c z).2.2.1 x c e rfl
    by_cases hc : c ∈ X.fs
    · obtain ⟨sl, q⟩ := slot c o (I.cne x c e) hc nch ho (I.freeC x c e)
      exact ⟨_, q, hd⟩
    · exact ⟨o, keep c o (I.cne x c e) hc nch ho (I.freeC x c e), hd⟩
  refine ⟨I.ok, I.os, hg, ⟨fun b o e n hb hx => ?_, fun b o e n hb hx => ?_, fun b o e n hx => ?_, fun b o e hx => ?_, fun b xs e => tups b xs (I.base.tups b xs e), fun b o xs e => frzs b o xs (I.base.frzs b o xs e), fun b ps e => ?_⟩, ?_, fun x c e => ?_, ?_, fun x c e => ?_, fun p hp => ?_, hok, I.len⟩
  · exact keep b o (neL b o e) hb (neC b o e hx) (I.base.keep b o e n hb hx) (I.base.free b o e n hx)
  · obtain ⟨sl, e1⟩ := I.base.slot b o e n hb hx
    obtain ⟨sl', e2⟩ := slot b _ (neL b o e) hb (neC b o e hx) e1 (I.base.free b o e n hx)
    exact ⟨sl', e2⟩
  · obtain ⟨o', e1⟩ := I.base.there b o e hx
    exact free b o' (neC b o e hx) e1 (I.base.free b o e n hx)
  · obtain ⟨o', e1⟩ := I.base.there b o e hx
    exact there b o' (neC b o e hx) e1
  · obtain ⟨m1, e1⟩ := I.base.tbls b ps e
    obtain ⟨m2, e2⟩ := tbls b _ e1
    exact ⟨m1 ++ m2, by rw [e2, Array.append_assoc]⟩
  · obtain ⟨m, hn, hl⟩ := I.loc
    refine ⟨m, ns m hn, fun i x v e1 e2 e3 => ?_⟩
    obtain ⟨u, r, l⟩ := hl i x v e1 e2 e3
    refine ⟨u, r, ?_⟩
    rcases l with l | ⟨k, c, e, z⟩
    · exact .inl l
    · exact .inr ⟨k, c, e, cellK x c e _ z⟩
  · obtain ⟨v, z⟩ := I.cell x c e
    exact ⟨v, cellK x c e v z⟩
  · obtain ⟨m, ⟨o, _, _, ho, _⟩, _⟩ := I.loc
    exact free _ o (fun z => (hch _ z).2.1 rfl) ho I.free
  · obtain ⟨v, o, ho, hd⟩ := I.cell x c e
    exact free c o (fun z => (hch c z).2.2.1 x c e rfl) ho (I.freeC x c e)
  · obtain ⟨e, n, ne, nf, d⟩ := I.pin p hp
    have nch : p.1 ∉ ch := fun z => (hch p.1 z).2.2.2 p hp rfl
    exact ⟨keep p.1 p.2 ne nf nch e n, free p.1 p.2 nch e n, ne, nf, d⟩
/-- .. where the frame's own object is kept too -/
theorem Inv.un {t' : Nat} (I : Inv X pins σ H s) (u : Un X.fs [] H H' s.heap h') (hok : HOk X.prog X.w H' h') : Inv X pins σ H' { s with heap := h', toks := t' } := by
  obtain ⟨m, ⟨o, es, ep, ho, r⟩, _⟩ := id I.loc
  obtain ⟨sl, hL⟩ := u.any ho I.free (by simp)
  exact I.step (g' := s.gens) (d' := s.drawn) (ch := []) (fun _ z => nomatch z) (fun b o _ hb _ e n => u.keep b o e n hb (by simp)) (fun b o _ hb _ e n => u.slot b o e n hb (by simp)) (fun b o _ e n => u.free b o e n (by simp)) (fun b o _ e => u.there b o e (by simp)) u.tups u.frzs u.tbls (fun m' hm => by
    obtain ⟨o', es', ep', ho', r'⟩ := hm
    rw [ho] at ho'; cases ho'
    exact ⟨_, es', ep', hL, r'⟩) hok I.bare
/-- behind a call (or a comprehension's block): the slots of this frame may have changed too, the records at ch may have turned -/
theorem Inv.call {g' : Array GenState} {t' : Nat} {d' : Drawn} {ch : List Addr} (I : Inv X pins σ H s) (u : Un (frs X.stack) ch H H' s.heap h') (hok : HOk X.prog X.w H' h') (hg : AllBare g')
    (hch : ∀ b ∈ ch, (b ∈ X.ex ∨ X.s₀.heap.objs.size ≤ b) ∧ b ≠ X.env.locals ∧ (∀ x c, X.env.cells.lookup x = some c → c ≠ b) ∧ ∀ p ∈ X.pn ++ pins, p.1 ≠ b) :
    Inv X pins σ H' { s with heap := h', gens := g', drawn := d', toks := t' } := by
  obtain ⟨m, ⟨o, es, ep, ho, r⟩, _⟩ := id I.loc
  obtain ⟨sl, hL⟩ := u.any ho I.free fun z => (hch _ z).2.1 rfl
  exact I.step (ch := ch) hch (fun b o hL hb hc e n => u.keep b o e n (fun z => (List.mem_cons.mp (I.stkSub b z)).elim hL hb) hc) (fun b o _ _ hc e n => u.any e n hc) (fun b o hc e n => u.free b o e n hc) (fun b o hc e => u.there b o e hc) u.tups u.frzs u.tbls (fun m' hm => by
    obtain ⟨o', es', ep', ho', r'⟩ := hm
    rw [ho] at ho'; cases ho'
    exact ⟨_, es', ep', hL, r'⟩) hok hg
/-- an untracked record of ours (an iterator) has turned -/
theorem Inv.turned {t' : Nat} {it : Addr} (I : Inv X pins σ H s) (k : ∀ b o, b ≠ it → s.heap.get? b = some o → h'.get? b = some o) (hn : H it = none) (hL : it ≠ X.env.locals)
    (h1 : it ∈ X.ex ∨ X.s₀.heap.objs.size ≤ it) (h2 : ∀ x c, X.env.cells.lookup x = some c → c ≠ it) (h3 : ∀ p ∈ X.pn ++ pins, p.1 ≠ it) : Inv X pins σ H { s with heap := h', toks := t' } := by
  have nit : ∀ b u, H b = some u → b ≠ it := fun b u e z => by rw [z, hn] at e; cases e
  refine I.step (g' := s.gens) (d' := s.drawn) (ch := [it]) (fun b hb => ?_) (fun b o _ _ hc e _ => k b o (fun z => hc (by simp [z])) e) (fun b o _ _ hc e _ => ⟨o.slots, k b o (fun z => hc (by simp [z])) e⟩) (fun _ _ _ _ n => n)
    (fun b o hc e => ⟨o, k b o (fun z => hc (by simp [z])) e⟩) (fun _ _ e => e) (fun _ _ _ e => e) (fun b ps e => ⟨#[], by rw [e]; simp⟩) (fun m hm => ?_) (fun b u e => ?_) I.bare
  · have e : b = it := by simpa using hb
    subst e
    exact ⟨h1, hL, h2, h3⟩
  · obtain ⟨o, es, ep, ho, r⟩ := hm
    exact ⟨o, es, ep, k _ o (Ne.symm hL) ho, r⟩
  · refine (I.hok b u e).stay (fun c v hc q => k c v ?_ q) (fun _ q => q) fun _ _ q => q
    rcases hc with z | z
    · rw [z]; exact nit b u e
    · exact nit c _ z
theorem Inv.tok (I : Inv X pins σ H s) (t : Nat) : Inv X pins σ H { s with toks := t } := I.un (h' := s.heap) (t' := t) Un.refl I.hok
/-- all objects kept -/
theorem Inv.kept {t' : Nat} (I : Inv X pins σ H s) (k : ∀ b u, s.heap.get? b = some u → h'.get? b = some u) : Inv X pins σ H { s with heap := h', toks := t' } := I.un (Un.kept k) (I.hok.kept k)
/-- a new object laid and tracked -/
theorem Inv.laid {a : Addr} {o : HO} {t' : Nat} (I : Inv X pins σ H s) (k : ∀ b u, s.heap.get? b = some u → h'.get? b = some u) (hp : s.heap.objs.size ≤ a) (new : ObjOk X.prog X.w (upd H a o) h' a o) :
    Inv X pins σ (upd H a o) { s with heap := h', toks := t' } := I.un (Un.laid k hp (I.hok.fresh hp)) (I.hok.laid k hp new)
/-- an object written -/
theorem Inv.write {x e : Addr} {o : HO} {t' : Nat} (I : Inv X pins σ H s) (mu : Mut (H x)) (he : e = x ∨ H e = some (.own x)) (k : ∀ b u, b ≠ e → s.heap.get? b = some u → h'.get? b = some u) (heo : ∃ u, h'.get? e = some u)
    (new : ObjOk X.prog X.w (upd H x o) h' x o) : Inv X pins σ (upd H x o) { s with heap := h', toks := t' } := I.un (Un.write mu he k heo) (I.hok.write mu he k heo new)
theorem Inv.pins_of {pins' : List (Addr × Obj)} (I : Inv X pins σ H s) (h : ∀ p ∈ pins', s.heap.get? p.1 = some p.2 ∧ H p.1 = none ∧ p.1 ≠ X.env.locals ∧ p.1 ∉ X.fs ∧ ∀ v, p.2.data ≠ .cell v) : Inv X pins' σ H s :=
  ⟨I.ok, I.os, I.bare, I.base, I.loc, I.cell, I.free, I.freeC, fun p hp => (List.mem_append.mp hp).elim (fun z => I.pin p (List.mem_append_left _ z)) (h p), I.hok, I.len⟩

theorem nodup_ix {N : List Str} (hN : N.Nodup) {i j : Nat} {x : Str} (a : N[i]? = some x) (b : N[j]? = some x) : i = j := by
  obtain ⟨h1, e1⟩ := List.getElem?_eq_some_iff.mp a
  obtain ⟨h2, e2⟩ := List.getElem?_eq_some_iff.mp b
  exact (List.getElem_inj hN).mp (e1.trans e2.symm)

/-- a name is stored; what changed -/
theorem store_ok2 {M : Model} {A : Around} {E : Value → Shared → Prop} {i : Nat} {x : Str} {v : V} {u : Value} {Q : Unit → Shared → Prop} (I : Inv X pins σ H s) (hN : X.N.Nodup) (hi : X.N[i]? = some x) (hx : Loc X.env.scope x) (r : RelV v u)
    (h : ∀ s', Inv X pins (σ.set i (some v)) H s' → (∃ a, Heap.SameBut a s.heap s'.heap ∧ (a = X.env.locals ∨ X.env.cells.lookup x = some a)) → Q () s') (hf : X.fn x = true ∨ X.env.scope.names.lookup x = some .local := by first | exact .inl rfl | exact .inr rfl | assumption) : wpAny M A (storeName X.env x u) Q E s := by
  obtain ⟨m, hn, hl⟩ := id I.loc
  have hcls : (X.env.scope.kind == .class || (X.env.scope.kind == .module && X.env.locals != X.env.globals)) = false := by rw [I.ok.kind]; rfl
  have hiσ : i < σ.length := by rw [I.len]; exact (List.getElem?_eq_some_iff.mp hi).1
  have cne := I.cne
  have tracked : ∀ {a : Addr} {h' : Heap}, (∃ o, s.heap.get? a = some o ∧ H a = none) → Heap.SameBut a s.heap h' → HOk X.prog X.w H h' := fun {a h'} ha hs b ob e => by
    obtain ⟨_, _, hfree⟩ := ha
    refine (I.hok b ob e).stay (fun c w' hc q => (hs.2 c ?_).trans q) (fun _ q => q) fun _ _ q => q
    rintro rfl
    rcases hc with rfl | hc
    · rw [hfree] at e; cases e
    · rw [hfree] at hc; cases hc
  rcases hx with hk | hk
  · refine wpAny_storeName_local hk hn (fun h' hn' hs => ?_) hcls
    obtain ⟨oL, _, _, hoL, _⟩ := id hn
    refine h _ ⟨I.ok, I.os, I.bare, ⟨fun b o e n hb hx => ?_, fun b o e n hb hx => ?_, I.base.free, fun b o e hx => ?_, I.base.tups, I.base.frzs, I.base.tbls⟩, ⟨_, hn', fun j y v' e1 e2 e3 => ?_⟩, fun y c e => ?_, I.free, I.freeC, fun p hp => ?_, tracked ⟨oL, hoL, I.free⟩ hs, by simpa using I.len⟩ ⟨_, hs, .inl rfl⟩
    · exact (hs.2 b (Nat.ne_of_lt (Nat.lt_of_lt_of_le (Heap.lt_size e) I.ok.above))).trans (I.base.keep b o e n hb hx)
    · obtain ⟨sl, e1⟩ := I.base.slot b o e n hb hx
      exact ⟨sl, (hs.2 b (Nat.ne_of_lt (Nat.lt_of_lt_of_le (Heap.lt_size e) I.ok.above))).trans e1⟩
    · obtain ⟨o', e1⟩ := I.base.there b o e hx
      exact ⟨o', (hs.2 b (Nat.ne_of_lt (Nat.lt_of_lt_of_le (Heap.lt_size e) I.ok.above))).trans e1⟩
    · by_cases hj : j = i
      · subst hj
        rw [hi] at e1; cases e1
        rw [List.getElem?_set_self hiσ] at e2
        cases e2
        exact ⟨u, r, .inl ⟨hk, by simp⟩⟩
      · rw [List.getElem?_set_ne (Ne.symm hj)] at e2
        obtain ⟨u', r', q⟩ := hl j y v' e1 e2 e3
        refine ⟨u', r', ?_⟩
        rcases q with ⟨k, e⟩ | ⟨k, c, e, z⟩
        · refine .inl ⟨k, ?_⟩
          have : y ≠ x := fun e => hj (nodup_ix hN e1 (e ▸ hi))
          simp [this, e]
        · exact .inr ⟨k, c, e, z.sameBut hs (cne y c e)⟩
    · obtain ⟨w', z⟩ := I.cell y c e
      exact ⟨w', z.sameBut hs (cne y c e)⟩
    · obtain ⟨e, n, ne, nf, d⟩ := I.pin p hp
      exact ⟨(hs.2 p.1 ne).trans e, n, ne, nf, d⟩
  · have hfn : X.fn x = true := by
      rcases hf with z | z
      · exact z
      · rw [z] at hk; cases hk
    obtain ⟨c, hc⟩ := I.ok.has x (.inl hk)
    obtain ⟨w', z⟩ := I.cell x c hc
    refine wpAny_storeName_cell I.ok.kind hk hc z (fun h' hc' hs => ?_)
    obtain ⟨oc, hoc, hocd⟩ := id z
    refine h { s with heap := h' } ⟨I.ok, I.os, I.bare, ⟨fun b o e n hb hx => ?_, fun b o e n hb hx => ?_, I.base.free, fun b o e hx => ?_, I.base.tups, I.base.frzs, I.base.tbls⟩, ⟨m, hn.sameBut hs (Ne.symm (cne x c hc)), fun j y v' e1 e2 e3 => ?_⟩, fun y c' e => ?_, I.free, I.freeC, fun p hp => ?_, tracked ⟨oc, hoc, I.freeC x c hc⟩ hs, by simpa using I.len⟩ ⟨c, hs, .inr hc⟩
    · exact (hs.2 b (Nat.ne_of_lt (Nat.lt_of_lt_of_le (Heap.lt_size e) (I.ok.cab x c hfn hc)))).trans (I.base.keep b o e n hb hx)
    · obtain ⟨sl, e1⟩ := I.base.slot b o e n hb hx
      exact ⟨sl, (hs.2 b (Nat.ne_of_lt (Nat.lt_of_lt_of_le (Heap.lt_size e) (I.ok.cab x c hfn hc)))).trans e1⟩
    · obtain ⟨o', e1⟩ := I.base.there b o e hx
      exact ⟨o', (hs.2 b (Nat.ne_of_lt (Nat.lt_of_lt_of_le (Heap.lt_size e) (I.ok.cab x c hfn hc)))).trans e1⟩
    · by_cases hj : j = i
      · subst hj
        rw [hi] at e1; cases e1
        rw [List.getElem?_set_self hiσ] at e2
        cases e2
        exact ⟨u, r, .inr ⟨.inl hk, c, hc, hc'⟩⟩
      · rw [List.getElem?_set_ne (Ne.symm hj)] at e2
        obtain ⟨u', r', q⟩ := hl j y v' e1 e2 e3
        refine ⟨u', r', ?_⟩
        rcases q with q | ⟨k, c', e, z'⟩
        · exact .inl q
        · refine .inr ⟨k, c', e, z'.sameBut hs ?_⟩
          rintro rfl
          exact hj (nodup_ix hN e1 (I.ok.inj _ _ _ e hc ▸ hi))
    · by_cases hcc : c' = c
      · subst hcc; exact ⟨_, hc'⟩
      · obtain ⟨w2, z2⟩ := I.cell y c' e
        exact ⟨w2, z2.sameBut hs hcc⟩
    · obtain ⟨e, n, ne, nf, d⟩ := I.pin p hp
      refine ⟨(hs.2 p.1 ?_).trans e, n, ne, nf, d⟩
      intro q
      rw [q, hoc] at e
      have q' : oc = p.2 := Option.some.inj e
      exact d w' (by rw [← q']; exact hocd)
theorem store_ok {M : Model} {A : Around} {E : Value → Shared → Prop} {i : Nat} {x : Str} {v : V} {u : Value} {Q : Unit → Shared → Prop} (I : Inv X pins σ H s) (hN : X.N.Nodup) (hi : X.N[i]? = some x) (hx : Loc X.env.scope x) (r : RelV v u)
    (h : ∀ s', Inv X pins (σ.set i (some v)) H s' → Q () s') (hf : X.fn x = true ∨ X.env.scope.names.lookup x = some .local := by first | exact .inl rfl | exact .inr rfl | assumption) : wpAny M A (storeName X.env x u) Q E s :=
  store_ok2 I hN hi hx r (fun s' I' _ => h s' I') hf
/-- behind a call or a block, the state as it is -/
theorem Inv.call' {s' : Shared} {ch : List Addr} (I : Inv X pins σ H s) (ho : s'.os = s.os) (u : Un (frs X.stack) ch H H' s.heap s'.heap) (hok : HOk X.prog X.w H' s'.heap) (hg : AllBare s'.gens)
    (hch : ∀ b ∈ ch, (b ∈ X.ex ∨ X.s₀.heap.objs.size ≤ b) ∧ b ≠ X.env.locals ∧ (∀ x c, X.env.cells.lookup x = some c → c ≠ b) ∧ ∀ p ∈ X.pn ++ pins, p.1 ≠ b) : Inv X pins σ H' s' := by
  obtain ⟨h', g', d', t', o'⟩ := s'
  have e : o' = s.os := ho
  subst e
  exact I.call (g' := g') (t' := t') (d' := d') u hok hg hch
end

/-! ### the judgements -/
/-- an exception: its class, its own dict's address (where it has one), the abstract heap behind it -/
abbrev XK := Value → Option Addr → Hp → Prop
abbrev St := List (Option V)
abbrev VK := V → Hp → Prop
/-- an expression's reading; a test's; an argument list's -/
abbrev TE := St → Hp → VK → Prop
abbrev TT := St → Hp → (Bool → Hp → Prop) → Prop
abbrev TA := St → Hp → (List V → Hp → Prop) → Prop
/-- what is wanted behind a statement -/
structure Ends where
  nx : St → Hp → Prop
  rt : VK
  bk : St → Hp → Prop := fun _ _ => False
  ct : St → Hp → Prop := fun _ _ => False
abbrev TS := Ends → St → Hp → Prop

def EP (X : Cx) (pins : List (Addr × Obj)) (σ : St) (Q : VK) (u : Value) (s' : Shared) : Prop := ∃ v H', Inv X pins σ H' s' ∧ RelV v u ∧ Q v H'
def TP (X : Cx) (pins : List (Addr × Obj)) (σ : St) (Q : Bool → Hp → Prop) (b : Bool) (s' : Shared) : Prop := ∃ H', Inv X pins σ H' s' ∧ Q b H'
def AP (X : Cx) (pins : List (Addr × Obj)) (σ : St) (Q : List V → Hp → Prop) (us : List Value) (s' : Shared) : Prop := ∃ vs H', Inv X pins σ H' s' ∧ Vals vs us ∧ Q vs H'
def SP (X : Cx) (pins : List (Addr × Obj)) (D : Ends) (f : Flow) (s' : Shared) : Prop :=
  match f with
  | .next => ∃ σ' H', Inv X pins σ' H' s' ∧ D.nx σ' H'
  | .brk => ∃ σ' H', Inv X pins σ' H' s' ∧ D.bk σ' H'
  | .cont => ∃ σ' H', Inv X pins σ' H' s' ∧ D.ct σ' H'
  | .ret u => ∃ v σ' H', Inv X pins σ' H' s' ∧ RelV v u ∧ D.rt v H'

def PE (X : Cx) (e : Expr) (t : TE) : Prop :=
  ∀ (pins : List (Addr × Obj)) (s : Shared) (σ : St) (H : Hp) (Q : VK), Inv X pins σ H s → t σ H Q → wpAny (model X.prog X.w) X.A (eval e X.env) (EP X pins σ Q) X.xe s
def PT (X : Cx) (e : Expr) (t : TT) : Prop :=
  ∀ (pins : List (Addr × Obj)) (s : Shared) (σ : St) (H : Hp) (Q : Bool → Hp → Prop), Inv X pins σ H s → t σ H Q → wpAny (model X.prog X.w) X.A (isTrue e X.env (eval e X.env)) (TP X pins σ Q) X.xe s
/-- a test whatever its 'whole' is (and, or) -/
def PW (X : Cx) (e : Expr) (t : TT) : Prop :=
  ∀ (whole : Sem Value) (pins : List (Addr × Obj)) (s : Shared) (σ : St) (H : Hp) (Q : Bool → Hp → Prop), Inv X pins σ H s → t σ H Q → wpAny (model X.prog X.w) X.A (isTrue e X.env whole) (TP X pins σ Q) X.xe s
theorem PW.pt {X : Cx} {e : Expr} {t : TT} (h : PW X e t) : PT X e t := h _
/-- an argument list (no star), from the left -/
def PA (X : Cx) (es : List Expr) (t : TA) : Prop :=
  ∀ (pos : Pos) (pins : List (Addr × Obj)) (s : Shared) (σ : St) (H : Hp) (Q : List V → Hp → Prop), Inv X pins σ H s → t σ H Q → wpAny (model X.prog X.w) X.A (spliced (backTo pos (starEach es X.env))) (AP X pins σ Q) X.xe s
def PS (X : Cx) (st : Stmt) (t : TS) : Prop :=
  ∀ (pins : List (Addr × Obj)) (s : Shared) (σ : St) (H : Hp) (D : Ends), Inv X pins σ H s → t D σ H → wpAny (model X.prog X.w) X.A (exec st X.env) (SP X pins D) X.xe s
def PSs (X : Cx) (st : List Stmt) (t : TS) : Prop :=
  ∀ (pins : List (Addr × Obj)) (s : Shared) (σ : St) (H : Hp) (D : Ends), Inv X pins σ H s → t D σ H → wpAny (model X.prog X.w) X.A (execs st X.env) (SP X pins D) X.xe s
/-- weaken the end -/
theorem thn {α : Type} {t : Sem α} {Q Q' : α → Shared → Prop} {M : Model} {A : Around} {E : Value → Shared → Prop} {s : Shared} (h : wpAny M A t Q E s) (hQ : ∀ a s, Q a s → Q' a s) : wpAny M A t Q' E s := wpAny_mono h hQ fun _ _ x => x
end L2

namespace L2
open PySem PySem.Spec PyProof.Rows
section
variable {X : Cx}

/-! ### names and constants -/
def tVar (i : Nat) : TE := fun σ H Q => ∃ v, σ[i]? = some (some v) ∧ Q v H
def tC (v : V) : TE := fun _ H Q => Q v H
theorem pe_var {i : Nat} {x : Str} {pos : Pos} (hN : X.N[i]? = some x) (hv : Vis X.env.scope x) (hd : (x == ("__debug__" : Str)) = false := by decide) (hcd : (x == ("__classdict__" : Str)) = false := by decide) : PE X (.Name x pos) (tVar i) := by
  intro pins s σ H Q I h
  obtain ⟨v, e, h⟩ := h
  obtain ⟨m, hn, hl⟩ := I.loc
  obtain ⟨u, r, l⟩ := hl i x v hN e hv
  have fin : EP X pins σ Q u s := ⟨v, H, I, r, h⟩
  rcases l with ⟨hk, hm⟩ | ⟨hk, c, hc, hcell⟩
  · exact wpAny_Name (wpAny_loadName_local I.ok.kind hk hn hm fin) hd
  · rcases hk with hk | hk
    · exact wpAny_Name (wpAny_loadName_cell I.ok.kind hk hc hcell fin) hd
    · exact wpAny_Name (wpAny_loadName_free I.ok.kind hk hc hcell fin hcd) hd
theorem pe_int {i j pos} : PE X (.Constant (.int i) j pos) (tC (.int i)) := fun _ _ _ H _ I h => wpAny_Constant_int ⟨.int i, H, I.tok _, ⟨_, rfl⟩, h⟩
theorem pe_bl {b j pos} : PE X (.Constant (.bool b) j pos) (tC (.bl b)) := fun _ _ _ H _ I h => Constant_bool ⟨.bl b, H, I, rfl, h⟩
theorem pe_non {j pos} : PE X (.Constant .none j pos) (tC .non) := fun _ _ _ H _ I h => Constant_none ⟨.non, H, I, rfl, h⟩
theorem pe_str {x j pos} : PE X (.Constant (.str x) j pos) (tC (.str x)) := fun _ _ _ H _ I h => Calls.Constant_str ⟨.str x, H, I.tok _, ⟨_, rfl⟩, h⟩

/-- a global name of the def -/
def Gl (X : Cx) (x : Str) : Prop := X.env.kindOf x = some .globalImplicit
theorem ld_glob {E : Value → Shared → Prop} {pins : List (Addr × Obj)} {s : Shared} {σ : St} {H : Hp} {x : Str} {u : Value} {pos : Pos} {Q : Value → Shared → Prop} (I : Inv X pins σ H s) (hg : Gl X x) (hm : X.mg x = some u) (h : Q u s)
    (hd : (x == ("__debug__" : Str)) = false := by decide) : wpAny (model X.prog X.w) X.A (eval (.Name x pos) X.env) Q E s :=
  Calls.Name_function_global I.ok.kind hg (Calls.loadGlobal_global (by rw [I.ok.glob]; exact I.mod.glob.keeps I.bk) hm h) hd
theorem ld_blt {E : Value → Shared → Prop} {pins : List (Addr × Obj)} {s : Shared} {σ : St} {H : Hp} {x : Str} {u : Value} {pos : Pos} {Q : Value → Shared → Prop} (I : Inv X pins σ H s) (hg : Gl X x) (hm : X.mg x = none) (hv : bootBuiltins x = some u) (h : Q u s)
    (hn : x ≠ "__name__" := by decide) (hd : (x == ("__debug__" : Str)) = false := by decide) : wpAny (model X.prog X.w) X.A (eval (.Name x pos) X.env) Q E s := by
  obtain ⟨mb, h1, h2⟩ := I.mod.blt
  exact Calls.Name_function_global I.ok.kind hg (Calls.loadGlobal_builtin (by rw [I.ok.glob]; exact I.mod.glob.keeps I.bk) hm (by rw [I.ok.blt]; exact h1.keeps I.bk) ((h2 x hn).trans hv) h) hd
/-- a module's constant, a class, a function, as a value -/
theorem pe_glob {x : Str} {v : V} {u : Value} {pos : Pos} (hg : Gl X x) (hm : X.mg x = some u) (r : RelV v u) (hd : (x == ("__debug__" : Str)) = false := by decide) : PE X (.Name x pos) (tC v) :=
  fun _ _ _ H _ I h => ld_glob I hg hm ⟨v, H, I, r, h⟩ hd
theorem pe_bltn {x : Str} {v : V} {u : Value} {pos : Pos} (hg : Gl X x) (hm : X.mg x = none) (hv : bootBuiltins x = some u) (r : RelV v u) (hn : x ≠ "__name__" := by decide) (hd : (x == ("__debug__" : Str)) = false := by decide) : PE X (.Name x pos) (tC v) :=
  fun _ _ _ H _ I h => ld_blt I hg hm hv ⟨v, H, I, r, h⟩ hn hd

/-! ### arithmetic -/
/-- two ints -/
def t2I (ta tb : TE) (k : Int → Int → Hp → Prop) : St → Hp → Prop := fun σ H => ta σ H fun x H1 => tb σ H1 fun y H2 => ∃ i j, x = .int i ∧ y = .int j ∧ k i j H2
def tAdd (ta tb : TE) : TE := fun σ H Q => t2I ta tb (fun i j H2 => Q (.int (i + j)) H2) σ H
def tSub (ta tb : TE) : TE := fun σ H Q => t2I ta tb (fun i j H2 => Q (.int (i - j)) H2) σ H
/-- the left factor below 2^64 -/
def tMul (ta tb : TE) : TE := fun σ H Q => t2I ta tb (fun i j H2 => (-(2 ^ 64) < i ∧ i < 2 ^ 64) ∧ Q (.int (i * j)) H2) σ H
variable {a b : Expr} {ta tb : TE} {pos : Pos}
/-! ### comparisons -/
def PC (X : Cx) (op : CmpOp) (a b : Expr) (t : TE) : Prop :=
  ∀ (pins : List (Addr × Obj)) (s : Shared) (σ : St) (H : Hp) (Q : VK), Inv X pins σ H s → t σ H Q →
    wpAny (model X.prog X.w) X.A (eval a X.env) (fun v s₁ => wpAny (model X.prog X.w) X.A (eval b X.env) (fun u s₂ => wpAny (model X.prog X.w) X.A (compareOp op v u) (EP X pins σ Q) X.xe s₂) X.xe s₁) X.xe s
def tCmp (p : Int → Int → Bool) (ta tb : TE) : TE := fun σ H Q => t2I ta tb (fun i j H2 => Q (.bl (p i j)) H2) σ H
abbrev tLt : TE → TE → TE := tCmp fun i j => decide (i < j)
abbrev tLe : TE → TE → TE := tCmp fun i j => decide (i ≤ j)
abbrev tGt : TE → TE → TE := tCmp fun i j => decide (j < i)
abbrev tGe : TE → TE → TE := tCmp fun i j => decide (j ≤ i)
abbrev tEqI : TE → TE → TE := tCmp fun i j => decide (i = j)
abbrev tNeI : TE → TE → TE := tCmp fun i j => !decide (i = j)
/-- is None -/
def tIsN (ta : TE) : TE := fun σ H Q => ta σ H fun x H1 => Q (.bl (decide (x = .non))) H1
def tNotN (ta : TE) : TE := fun σ H Q => ta σ H fun x H1 => Q (.bl (!decide (x = .non))) H1
/-- a comparison as a value, as a test -/
def tB (t : TE) : TT := fun σ H Q => t σ H fun x H1 => ∃ c, x = .bl c ∧ Q c H1
/-- an expression whose value is a bool, as a test -/
theorem pt_val {e : Expr} {t : TE} (h : PE X e t) (he : ∀ whole, isTrue e X.env whole = (do let v ← whole; standAt e.pos; holding [v] (truthy v)) := by intro _; rfl) : PT X e (tB t) := by
  intro pins s σ H Q I hw
  refine isTrue_plain (thn (h pins s σ H _ I hw) fun v s1 ⟨x, H1, I1, r1, q1⟩ => ?_) (he _)
  obtain ⟨d, rfl, q⟩ := q1
  cases r1
  exact wpAny_truthy_bool ⟨H1, I1, q⟩

/-! ### and, or, not -/
variable {tA tB' : TT} {rest : List Expr}
def tAnd (t u : TT) : TT := fun σ H Q => t σ H fun c H1 => if c = true then u σ H1 Q else Q false H1
def tOr (t u : TT) : TT := fun σ H Q => t σ H fun c H1 => if c = true then Q true H1 else u σ H1 Q
def tNot (t : TT) : TT := fun σ H Q => t σ H fun c H1 => Q (!c) H1
theorem pw_and1 (ha : PT X a tA) : PW X (.BoolOp .And [a] pos) tA := by
  intro wh pins s σ H Q I h
  refine isTrue_and (thn (ha pins s σ H Q I h) fun c s1 e => ?_)
  cases c with
  | true => exact isTrue_and_nil e
  | false => exact e
theorem pw_or1 (ha : PT X a tA) : PW X (.BoolOp .Or [a] pos) tA := by
  intro wh pins s σ H Q I h
  refine isTrue_or (thn (ha pins s σ H Q I h) fun c s1 e => ?_)
  cases c with
  | false => exact isTrue_or_nil e
  | true => exact e
theorem pw_and (ha : PT X a tA) (hb : PW X (.BoolOp .And (b :: rest) pos) tB') : PW X (.BoolOp .And (a :: b :: rest) pos) (tAnd tA tB') := by
  intro wh pins s σ H Q I h
  refine isTrue_and (thn (ha pins s σ H _ I h) fun c s1 ⟨H1, I1, q1⟩ => ?_)
  cases c with
  | true => exact hb wh pins s1 σ H1 Q I1 q1
  | false => exact ⟨H1, I1, q1⟩
theorem pw_or (ha : PT X a tA) (hb : PW X (.BoolOp .Or (b :: rest) pos) tB') : PW X (.BoolOp .Or (a :: b :: rest) pos) (tOr tA tB') := by
  intro wh pins s σ H Q I h
  refine isTrue_or (thn (ha pins s σ H _ I h) fun c s1 ⟨H1, I1, q1⟩ => ?_)
  cases c with
  | true => exact ⟨H1, I1, q1⟩
  | false => exact hb wh pins s1 σ H1 Q I1 q1
theorem pt_not (ha : PT X a tA) : PT X (.UnaryOp .Not a pos) (tNot tA) := by
  intro pins s σ H Q I h
  exact isTrue_not (ha pins s σ H (fun c H1 => Q (!c) H1) I h)
/-- .. as values (bools) -/
def tAndV (ta tb : TE) : TE := fun σ H Q => ta σ H fun x H1 => ∃ c, x = .bl c ∧ if c = true then tb σ H1 Q else Q (.bl false) H1
def tOrV (ta tb : TE) : TE := fun σ H Q => ta σ H fun x H1 => ∃ c, x = .bl c ∧ if c = true then Q (.bl true) H1 else tb σ H1 Q
def tNotV (ta : TE) : TE := fun σ H Q => ta σ H fun x H1 => ∃ c, x = .bl c ∧ Q (.bl (!c)) H1
theorem pe_one {op} {t : TE} (h : PE X a t) : PE X (.BoolOp op [a] pos) t := fun pins s σ H Q I hw => BoolOp_one (h pins s σ H Q I hw)
theorem pe_and (ha : PE X a ta) (hb : PE X (.BoolOp .And (b :: rest) pos) tb) : PE X (.BoolOp .And (a :: b :: rest) pos) (tAndV ta tb) := by
  intro pins s σ H Q I h
  refine BoolOp_and (thn (ha pins s σ H _ I h) fun v s1 ⟨x, H1, I1, r1, q1⟩ => ?_)
  obtain ⟨c, rfl, q1⟩ := q1
  cases r1
  refine wpAny_truthy_bool ?_
  cases c with
  | true => exact hb pins s1 σ H1 Q I1 q1
  | false => exact ⟨.bl false, H1, I1, rfl, q1⟩
theorem pe_not (ha : PE X a ta) : PE X (.UnaryOp .Not a pos) (tNotV ta) := by
  intro pins s σ H Q I h
  refine UnaryOp_ (thn (ha pins s σ H _ I h) fun v s1 ⟨x, H1, I1, r1, q1⟩ => ?_)
  obtain ⟨c, rfl, q1⟩ := q1
  cases r1
  exact not_of (wpAny_truthy_bool ⟨.bl (!c), H1, I1, rfl, q1⟩)
/-- a if t else b -/
def tIf (t : TT) (ta tb : TE) : TE := fun σ H Q => t σ H fun c H1 => if c = true then ta σ H1 Q else tb σ H1 Q
theorem pe_ifExp {c : Expr} (hc : PT X c tA) (ha : PE X a ta) (hb : PE X b tb) : PE X (.IfExp c a b pos) (tIf tA ta tb) := by
  intro pins s σ H Q I h
  refine wpAny_IfExp (thn (hc pins s σ H _ I h) fun d s1 ⟨H1, I1, q1⟩ => ?_)
  cases d with
  | true => exact ha pins s1 σ H1 Q I1 q1
  | false => exact hb pins s1 σ H1 Q I1 q1
end
end L2

namespace L2
open PySem PySem.Spec PyProof.Rows

/-! ### a list, a tuple that is read: tracked, frozen, or an object of the module -/
def SqL (K : PySem.W.Frag) (H : Hp) (a : Addr) (xs : List V) : Prop :=
  Rd H a (.lst xs) ∨
    ∃ (o : Obj) (its : Array Value) (n : Nat), K.lookup a = some o ∧ o.cls = .type "list" ∧ o.dict = none ∧ o.data = .seq its n ∧ its.size ≤ sizeLine ∧ Vals xs its.toList
def SqT (K : PySem.W.Frag) (H : Hp) (a : Addr) (xs : List V) : Prop :=
  Rd H a (.tup xs) ∨
    ∃ (o : Obj) (its : Array Value) (n : Nat), K.lookup a = some o ∧ o.cls = .type "tuple" ∧ o.data = .seq its n ∧ its.size ≤ sizeLine ∧ Vals xs its.toList
def absV : Value → Option V
  | .none => some .non
  | .bool b => some (.bl b)
  | .int i _ => some (.int i)
  | .str x _ => some (.str x)
  | .bytes b _ => some (.byt b)
  | .float b _ => some (.flt b)
  | .ref a => some (.ref a)
  | .type n => some (.ty n)
  | _ => none
theorem RelV.abs {x : V} {u : Value} (r : RelV x u) : absV u = some x := by
  cases x with
  | non => cases r; rfl
  | bl _ => cases r; rfl
  | int _ => obtain ⟨t, rfl⟩ := r; rfl
  | str _ => obtain ⟨t, rfl⟩ := r; rfl
  | byt _ => obtain ⟨t, rfl⟩ := r; rfl
  | flt _ => obtain ⟨t, rfl⟩ := r; rfl
  | ref _ => cases r; rfl
  | ty _ => cases r; rfl
theorem RelV.inj {x y : V} {u : Value} (r : RelV x u) (q : RelV y u) : x = y := Option.some.inj (r.abs.symm.trans q.abs)
theorem Vals.inj : ∀ {xs ys : List V} {us : List Value}, Vals xs us → Vals ys us → xs = ys
  | _, _, _, .nil, .nil => rfl
  | _, _, _, .cons r t, .cons r' t' => by rw [r.inj r', Vals.inj t t']
section
variable {X : Cx} {pins : List (Addr × Obj)} {σ : St} {H : Hp} {s : Shared} {a : Addr} {xs ys : List V}
theorem SqL.of {K : PySem.W.Frag} (h : H a = some (.lst xs)) : SqL K H a xs := .inl (.inl h)
theorem SqT.of {K : PySem.W.Frag} (h : H a = some (.tup xs)) : SqT K H a xs := .inl (.inl h)
theorem Inv.list (I : Inv X pins σ H s) (h : SqL X.K H a xs) : ∃ its : List Value, Vals xs its ∧ PlainL s.heap a its.toArray ∧ xs.length ≤ sizeLine := by
  rcases h with h | ⟨o, its, n, hk, hc, hd, hs, hz, r⟩
  · obtain ⟨z, its, n, r, e⟩ := h.ok I.hok
    exact ⟨its, r, ⟨_, n, e, rfl, rfl, rfl⟩, z⟩
  · refine ⟨its.toList, r, ⟨o, n, I.kIn a o hk, hc, hd, by simpa using hs⟩, ?_⟩
    have e := r.length
    simp only [Array.length_toList] at e
    omega
theorem Inv.tuple (I : Inv X pins σ H s) (h : SqT X.K H a xs) : ∃ its : List Value, Vals xs its ∧ IsTup s.heap a its.toArray ∧ xs.length ≤ sizeLine := by
  rcases h with h | ⟨o, its, n, hk, hc, hs, hz, r⟩
  · obtain ⟨z, its, r, p⟩ := h.ok I.hok
    exact ⟨its, r, p, z⟩
  · refine ⟨its.toList, r, ⟨o, I.kIn a o hk, hc, n, by simpa using hs⟩, ?_⟩
    have e := r.length
    simp only [Array.length_toList] at e
    omega
theorem Inv.list_inj (I : Inv X pins σ H s) (h : SqL X.K H a xs) (h' : SqL X.K H a ys) : xs = ys := by
  obtain ⟨its, r, ⟨o, n, e, _, _, d⟩, _⟩ := I.list h
  obtain ⟨its', r', ⟨o', n', e', _, _, d'⟩, _⟩ := I.list h'
  rw [e] at e'; cases e'
  rw [d] at d'
  injection d' with d1 _
  have : its = its' := by simpa using congrArg Array.toList d1
  subst this
  exact r.inj r'
end

/-! ### another wish about exceptions -/
abbrev Cx.wish (X : Cx) (E : Value → Shared → Prop) : Cx := { X with xe := E }
/-- no exception leaves -/
abbrev Cx.nox (X : Cx) : Cx := X.wish fun _ _ => False
theorem Cx.Ok.wish {X : Cx} (ok : X.Ok) (E : Value → Shared → Prop) : (X.wish E).Ok :=
  ⟨ok.mod, ok.kind, ok.glob, ok.blt, ok.above, ok.inj, ok.has, ok.cab, ok.hd, ok.frames, ok.stk, ok.exf, ok.bs, ok.bsz, ok.noex, ok.exfs, ok.funs, ok.frf⟩
theorem Cx.Ok.unwish {X : Cx} {E : Value → Shared → Prop} (ok : (X.wish E).Ok) : X.Ok :=
  ⟨ok.mod, ok.kind, ok.glob, ok.blt, ok.above, ok.inj, ok.has, ok.cab, ok.hd, ok.frames, ok.stk, ok.exf, ok.bs, ok.bsz, ok.noex, ok.exfs, ok.funs, ok.frf⟩
section
variable {X : Cx} {pins : List (Addr × Obj)} {σ : St} {H : Hp} {s : Shared} {E : Value → Shared → Prop}
theorem Inv.wish (I : Inv X pins σ H s) (E : Value → Shared → Prop) : Inv (X.wish E) pins σ H s := ⟨I.ok.wish E, I.os, I.bare, I.base, I.loc, I.cell, I.free, I.freeC, I.pin, I.hok, I.len⟩
theorem Inv.unwish (I : Inv (X.wish E) pins σ H s) : Inv X pins σ H s := ⟨I.ok.unwish, I.os, I.bare, I.base, I.loc, I.cell, I.free, I.freeC, I.pin, I.hok, I.len⟩
theorem SP.unwish {D : Ends} {f : Flow} {s' : Shared} (h : SP (X.wish E) pins D f s') : SP X pins D f s' := by
  cases f with
  | next => obtain ⟨σ', H', I, q⟩ := h; exact ⟨σ', H', I.unwish, q⟩
  | brk => obtain ⟨σ', H', I, q⟩ := h; exact ⟨σ', H', I.unwish, q⟩
  | cont => obtain ⟨σ', H', I, q⟩ := h; exact ⟨σ', H', I.unwish, q⟩
  | ret u => obtain ⟨v, σ', H', I, r, q⟩ := h; exact ⟨v, σ', H', I.unwish, r, q⟩
theorem PE.nox {e : Expr} {t : TE} (h : PE X.nox e t) : PE X e t := fun pins s σ H Q I hw =>
  wpAny_mono (h pins s σ H Q (I.wish _) hw) (fun _ _ ⟨v, H', I', r, q⟩ => ⟨v, H', I'.unwish, r, q⟩) fun _ _ z => False.elim z
theorem PT.nox {e : Expr} {t : TT} (h : PT X.nox e t) : PT X e t := fun pins s σ H Q I hw =>
  wpAny_mono (h pins s σ H Q (I.wish _) hw) (fun _ _ ⟨H', I', q⟩ => ⟨H', I'.unwish, q⟩) fun _ _ z => False.elim z
theorem PSs.nox {st : List Stmt} {t : TS} (h : PSs X.nox st t) : PSs X st t := fun pins s σ H D I hw =>
  wpAny_mono (h pins s σ H D (I.wish _) hw) (fun _ _ q => q.unwish) fun _ _ z => False.elim z
end

/-! ### blocks and small statements -/
section
variable {X : Cx} {st : Stmt} {rest : List Stmt} {t u : TS} {e : Expr} {te : TE} {pos : Pos}
def tNext : TS := fun D σ H => D.nx σ H
def tSeq (t u : TS) : TS := fun D σ H => t { D with nx := u D } σ H
theorem pss_nil : PSs X [] tNext := fun _ _ σ H _ I h => wpAny_execs_nil ⟨σ, H, I, h⟩
theorem pss_cons (h1 : PS X st t) (h2 : PSs X rest u) : PSs X (st :: rest) (tSeq t u) := by
  intro pins s σ H D I h
  refine wpAny_execs_cons (thn (h1 pins s σ H { D with nx := u D } I h) fun f s1 q => ?_)
  cases f with
  | next =>
    obtain ⟨σ', H', I', q⟩ := q
    exact h2 pins s1 σ' H' D I' q
  | ret v => exact q
  | brk => exact q
  | cont => exact q
theorem pss_one (h1 : PS X st t) : PSs X [st] t := by
  intro pins s σ H D I h
  refine wpAny_execs_cons (thn (h1 pins s σ H D I h) fun f s1 q => ?_)
  cases f with
  | next => exact wpAny_execs_nil q
  | ret v => exact q
  | brk => exact q
  | cont => exact q
def tBreak : TS := fun D σ H => D.bk σ H
def tCont : TS := fun D σ H => D.ct σ H
/-- in a def's body nothing is shown -/
theorem Inv.quiet {pins : List (Addr × Obj)} {σ : St} {H : Hp} {s : Shared} (I : Inv X pins σ H s) : interactive X.env = false := by simp [interactive, I.ok.kind]
/-- an expression whose value is dropped -/
def tDrop (te : TE) : TS := fun D σ H => te σ H fun _ H1 => D.nx σ H1
theorem ps_expr (he : PE X e te) (hs : swapsWith e none pos.line X.env = pure false := by rfl) : PS X (.Expr e pos) (tDrop te) := by
  intro pins s σ H D I h
  exact wpAny_Expr_any (thn (he pins s σ H _ I h) fun v s1 ⟨x, H1, I1, r1, q1⟩ => ⟨σ, H1, I1, q1⟩) I.quiet hs
def tRet (te : TE) : TS := fun D σ H => te σ H D.rt
theorem ps_ret (he : PE X e te) : PS X (.Return (some e) pos) (tRet te) := by
  intro pins s σ H D I h
  exact wpAny_Return_some (thn (he pins s σ H _ I h) fun v s1 ⟨x, H1, I1, r1, q1⟩ => ⟨x, σ, H1, I1, r1, q1⟩)
def tRetN : TS := fun D _ H => D.rt .non H
def tIfS (c : TT) (t u : TS) : TS := fun D σ H => c σ H fun b H1 => if b = true then t D σ H1 else u D σ H1
theorem ps_if {c : Expr} {a b : List Stmt} {tc : TT} (hc : PT X c tc) (ha : PSs X a t) (hb : PSs X b u) : PS X (.If c a b pos) (tIfS tc t u) := by
  intro pins s σ H D I h
  refine wpAny_If (thn (hc pins s σ H _ I h) fun d s1 ⟨H1, I1, q1⟩ => ?_)
  cases d with
  | true => exact ha pins s1 σ H1 D I1 q1
  | false => exact hb pins s1 σ H1 D I1 q1
/-- code that the proof never comes to -/
def tNever : TS := fun _ _ _ => False
end

/-! ### targets -/
abbrev TG := V → St → Hp → (St → Hp → Prop) → Prop
abbrev TGs := List V → St → Hp → (St → Hp → Prop) → Prop
def PG (X : Cx) (target : Expr) (t : TG) : Prop :=
  ∀ (pins : List (Addr × Obj)) (s : Shared) (σ : St) (H : Hp) (v : V) (u : Value) (Q : St → Hp → Prop), Inv X pins σ H s → RelV v u → t v σ H Q →
    wpAny (model X.prog X.w) X.A (assign target X.env u) (fun _ s' => ∃ σ' H', Inv X pins σ' H' s' ∧ Q σ' H') X.xe s
/-- several targets, one after another -/
def PGs (X : Cx) (ts : List Expr) (t : TGs) : Prop :=
  ∀ (pins : List (Addr × Obj)) (s : Shared) (σ : St) (H : Hp) (vs : List V) (us : List Value) (Q : St → Hp → Prop), Inv X pins σ H s → Vals vs us → t vs σ H Q →
    wpAny (model X.prog X.w) X.A (assignInOrder ((assignEach ts X.env).map (·.2)) us) (fun _ s' => ∃ σ' H', Inv X pins σ' H' s' ∧ Q σ' H') X.xe s
/-- o[i] = v, by values -/
abbrev TSet := V → V → V → Hp → (Hp → Prop) → Prop
def PSet (X : Cx) (t : TSet) : Prop :=
  ∀ (pins : List (Addr × Obj)) (s : Shared) (σ : St) (H : Hp) (o i v : V) (ov iv u : Value) (Q : Hp → Prop), Inv X pins σ H s → RelV o ov → RelV i iv → RelV v u → t o i v H Q →
    wpAny (model X.prog X.w) X.A (setItem ov iv u) (fun _ s' => ∃ H', Inv X pins σ H' s' ∧ Q H') X.xe s
/-- a op= b, by values -/
abbrev TIp := V → V → Hp → VK → Prop
def PIp (X : Cx) (op : Operator) (t : TIp) : Prop :=
  ∀ (pins : List (Addr × Obj)) (s : Shared) (σ : St) (H : Hp) (x y : V) (v u : Value) (Q : VK), Inv X pins σ H s → RelV x v → RelV y u → t x y H Q →
    wpAny (model X.prog X.w) X.A (inplaceOp op v u) (EP X pins σ Q) X.xe s
section
variable {X : Cx} {pos : Pos}
def gName (i : Nat) : TG := fun v σ H Q => Q (σ.set i (some v)) H
theorem pg_name {i : Nat} {x : Str} (hN : X.N.Nodup) (hi : X.N[i]? = some x) (hx : Loc X.env.scope x) (hf : X.fn x = true ∨ X.env.scope.names.lookup x = some .local := by first | exact .inl rfl | exact .inr rfl | assumption) : PG X (.Name x pos) (gName i) := by
  intro pins s σ H v u Q I r h
  exact wpAny_assign_Name (store_ok I hN hi hx r (fun s' I' => ⟨_, H, I', h⟩) hf)
def gNil : TGs := fun vs σ H Q => vs = [] ∧ Q σ H
def gCons (t : TG) (u : TGs) : TGs := fun vs σ H Q => ∃ v r, vs = v :: r ∧ t v σ H fun σ' H' => u r σ' H' Q
/-- (a, b, ..) = a tuple of that length -/
def gTup (K : PySem.W.Frag) (n : Nat) (t : TGs) : TG := fun v σ H Q => ∃ a xs, v = .ref a ∧ SqT K H a xs ∧ xs.length = n ∧ t xs σ H Q
/-- o[i] = .. -/
def gSub (to ti : TE) (t : TSet) : TG := fun v σ H Q => to σ H fun o H1 => ti σ H1 fun i H2 => t o i v H2 fun H3 => Q σ H3
/-- target = value -/
def tAsg (te : TE) (g : TG) : TS := fun D σ H => te σ H fun x H1 => g x σ H1 D.nx
/-- name = value -/
theorem ps_set {i : Nat} {x : Str} {e : Expr} {te : TE} {pos' : Pos} (hN : X.N.Nodup) (hi : X.N[i]? = some x) (hx : Loc X.env.scope x) (he : PE X e te) (hs : swapsWith e (some (.Name x pos')) pos.line X.env = pure false := by rfl) (hf : X.fn x = true ∨ X.env.scope.names.lookup x = some .local := by first | exact .inl rfl | exact .inr rfl | assumption) :
    PS X (.Assign [.Name x pos'] e pos) (tAsg te (gName i)) := by
  intro pins s σ H D I h
  refine wpAny_Assign_Name (thn (he pins s σ H _ I h) fun v s1 ⟨y, H1, I1, r1, q1⟩ => ?_) hs
  exact store_ok I1 hN hi hx r1 (fun s2 I2 => ⟨_, H1, I2, q1⟩) hf
/-- a, b = x, y with plain local names: stored from the right; the pair itself is not tracked (the opening rows as in PyProof/Rows/TupAssign.lean:23) -/
def tPar (i j : Nat) (ta : TA) : TS := fun D σ H => ta σ H fun vs H1 => ∃ v w, vs = [v, w] ∧ D.nx ((σ.set i (some v)).set j (some w)) H1
/-- name op= e -/
def tAug (i : Nat) (te : TE) (ti : TIp) : TS := fun D σ H => ∃ x, σ[i]? = some (some x) ∧ te σ H fun y H1 => ti x y H1 fun z H2 => D.nx (σ.set i (some z)) H2
/-- o[i] op= e -/
def tAugS (to ti te : TE) (tget : V → V → Hp → VK → Prop) (tip : TIp) (tset : TSet) : TS := fun D σ H => to σ H fun o H1 => ti σ H1 fun i H2 => tget o i H2 fun x H3 => te σ H3 fun y H4 => tip x y H4 fun z H5 => tset o i z H5 fun H6 => D.nx σ H6
/-- o[i], by values -/
def PGet (X : Cx) (t : V → V → Hp → VK → Prop) : Prop :=
  ∀ (pins : List (Addr × Obj)) (s : Shared) (σ : St) (H : Hp) (o i : V) (ov iv : Value) (Q : VK), Inv X pins σ H s → RelV o ov → RelV i iv → t o i H Q →
    wpAny (model X.prog X.w) X.A (getItem ov iv) (EP X pins σ Q) X.xe s
/-- ints -/
def ipI (f : Int → Int → Int) : TIp := fun x y H Q => ∃ i j, x = .int i ∧ y = .int j ∧ Q (.int (f i j)) H
end

/-! ### while -/
section
variable {X : Cx} {pos : Pos}
/-- the invariant W with its measure -/
def tWhile (c : TT) (tb : TS) : TS := fun D σ H => ∃ W : Nat → St → Hp → Prop, (∃ m, W m σ H) ∧ ∀ m σ H, W m σ H →
  c σ H fun b H1 => if b = true then ∃ N : St → Hp → Prop, (∀ σ' H', N σ' H' → ∃ m', m' < m ∧ W m' σ' H') ∧ tb { D with nx := N, ct := N, bk := D.nx } σ H1 else D.nx σ H1
end

/-! ### what a loop or a comprehension walks -/
/-- at turn i: it yields x (the heap may grow), or it stops -/
structure It where
  go : Nat → Hp → Prop
  yld : Nat → Hp → V → Hp → Prop
  stop : Nat → Hp → Prop
/-- the iterator's own objects may turn: they are not the frame's, not pinned, younger than the entry (or a comprehension's own) -/
def FpOk (X : Cx) (pins : List (Addr × Obj)) (H : Hp) (b : Addr) : Prop :=
  H b = none ∧ b ≠ X.env.locals ∧ b ∉ X.fs ∧ (b ∈ X.ex ∨ X.s₀.heap.objs.size ≤ b) ∧ (∀ x c, X.env.cells.lookup x = some c → c ≠ b) ∧ ∀ p ∈ X.pn ++ pins, p.1 ≠ b
theorem Inv.fpOk {X : Cx} {pins : List (Addr × Obj)} {σ : St} {H H' : Hp} {s : Shared} {b : Addr} (I : Inv X pins σ H s) (hb : s.heap.objs.size ≤ b) (hn : H' b = none) : FpOk X pins H' b := by
  refine ⟨hn, Nat.ne_of_gt (Nat.lt_of_lt_of_le I.lt hb), I.nofs hb, .inr (Nat.le_trans I.sz hb), fun x c e z => ?_, fun p hp z => ?_⟩
  · obtain ⟨v, q⟩ := I.cell x c e
    exact absurd (Nat.lt_of_lt_of_le q.lt (by rw [z]; exact hb)) (Nat.lt_irrefl _)
  · exact absurd (Nat.lt_of_lt_of_le (Heap.lt_size (I.pin p hp).1) (by rw [z]; exact hb)) (Nat.lt_irrefl _)
structure Turn (P : Program) (w : World) (K : PySem.W.Frag) (tg : Expr) (J : It) (fp : List Addr) (it : Addr) (tn : Nat → Heap → Prop) : Prop where
  mem : it ∈ fp
  obj : ∀ i h, tn i h → ∀ b ∈ fp, ∃ o, h.get? b = some o ∧ ∀ v, o.data ≠ .cell v
  keep : ∀ i h h', tn i h → (∀ b ∈ fp, ∀ o, h.get? b = some o → h'.get? b = some o) → tn i h'
  item : ∀ (X : Cx), X.prog = P → X.w = w → X.K = K → X.calm = true → ∀ (i : Nat) (pins : List (Addr × Obj)) (s : Shared) (σ : St) (H : Hp) (E : Value → Shared → Prop), Inv X pins σ H s → (∀ b ∈ fp, FpOk X pins H b) → tn i s.heap → J.go i H →
    wpAny (model P w) X.A (pyNext (.ref it)) (fun r s1 => ∃ u, r = some u ∧
      wpAny (model P w) X.A (letOwnedTupleGo tg (.ref it) u) (fun _ s2 => ∃ x H', Inv X pins σ H' s2 ∧ RelV x u ∧ J.yld i H x H' ∧ tn (i + 1) s2.heap ∧ ∀ b ∈ fp, H' b = none) E s1) E s
  done : ∀ (X : Cx), X.prog = P → X.w = w → X.K = K → X.calm = true → ∀ (i : Nat) (pins : List (Addr × Obj)) (s : Shared) (σ : St) (H : Hp) (E : Value → Shared → Prop), Inv X pins σ H s → (∀ b ∈ fp, FpOk X pins H b) → tn i s.heap → J.stop i H →
    wpAny (model P w) X.A (pyNext (.ref it)) (fun r s1 => r = none ∧ Inv X pins σ H s1) E s
  self : ∀ (A : Around) (i : Nat) (s : Shared) (Q : Value → Shared → Prop) (E : Value → Shared → Prop), tn i s.heap → Q (.ref it) s → wpAny (model P w) A (pyIter (.ref it)) Q E s
abbrev TI := St → Hp → (It → Hp → Prop) → Prop
/-- an iterator has come -/
def PIE (X : Cx) (pins : List (Addr × Obj)) (σ : St) (tg : Expr) (R : It → Hp → Prop) (itv : Value) (s2 : Shared) : Prop :=
  ∃ (it : Addr) (fp : List Addr) (tn : Nat → Heap → Prop) (J : It) (H' : Hp), itv = .ref it ∧ Inv X pins σ H' s2 ∧ Turn X.prog X.w X.K tg J fp it tn ∧ tn 0 s2.heap ∧ (∀ b ∈ fp, FpOk X pins H' b) ∧ R J H'
def PI (X : Cx) (tg iter : Expr) (wi : TI) : Prop :=
  ∀ (pins : List (Addr × Obj)) (s : Shared) (σ : St) (H : Hp) (R : It → Hp → Prop), Inv X pins σ H s → wi σ H R →
    wpAny (model X.prog X.w) X.A (eval iter X.env) (fun v s1 => wpAny (model X.prog X.w) X.A (pyIter v) (PIE X pins σ tg R) X.xe s1) X.xe s

/-- the step ahead of the store is nothing for an iterator that keeps no tuple -/
theorem go_of {M : Model} {A : Around} {E : Value → Shared → Prop} {s : Shared} {tg : Expr} {it : Addr} {u : Value} {o : Obj} {n : String} {vs : Array Value} {Q : Unit → Shared → Prop} (ho : s.heap.get? it = some o) (hc : o.cls = .type n) (hd : o.data = .fields vs)
    (hn : ["enumerate", "zip", "dict_itemiterator", "dict_reverseitemiterator", "odict_iterator", "itertools.zip_longest", "itertools.pairwise"].contains n = false) (hQ : Q () s) : wpAny M A (letOwnedTupleGo tg (.ref it) u) Q E s := by
  unfold letOwnedTupleGo
  cases tg <;> first
    | exact wpAny_pure hQ
    | (cases u <;> first
        | exact wpAny_pure hQ
        | (refine wpAny_bind (wpAny_load ho ?_)
           rw [hc, hd]
           show wpAny M A (if (["enumerate", "zip", "dict_itemiterator", "dict_reverseitemiterator", "odict_iterator", "itertools.zip_longest", "itertools.pairwise"].contains n && vs[0]? == some (rawInt _)) = true then _ else _) Q E s
           rw [if_neg (by intro h; rw [hn, Bool.false_and] at h; cases h)]
           exact wpAny_pure hQ))

/-- the list at a, as it stands at each turn (a loop may append to it) -/
def Itl (K : PySem.W.Frag) (a : Addr) : It :=
  ⟨fun i H => ∃ xs x, SqL K H a xs ∧ xs[i]? = some x, fun i H x H' => H' = H ∧ ∀ xs, SqL K H a xs → xs[i]? = some x, fun i H => ∃ xs, SqL K H a xs ∧ xs.length ≤ i⟩
def Itt (K : PySem.W.Frag) (a : Addr) : It :=
  ⟨fun i H => ∃ xs x, SqT K H a xs ∧ xs[i]? = some x, fun i H x H' => H' = H ∧ ∀ xs, SqT K H a xs → xs[i]? = some x, fun i H => ∃ xs, SqT K H a xs ∧ xs.length ≤ i⟩
/-- lo, lo + 1, .. (n of them) -/
def Itr (lo : Int) (n : Nat) : It := ⟨fun i _ => i < n, fun i H x H' => H' = H ∧ x = .int (lo + i), fun i _ => n ≤ i⟩
theorem turn_list {P : Program} {w : World} {K : PySem.W.Frag} {tg : Expr} (a it : Addr) : Turn P w K tg (Itl K a) [it] it (fun i h => h.IsListIter it a i) where
  mem := by simp
  obj := fun i h st b hb => by
    have e : b = it := by simpa using hb
    subst e
    obtain ⟨o, e, c, d⟩ := st
    exact ⟨o, e, fun v z => by rw [d] at z; cases z⟩
  keep := fun i h h' st k => st.at fun o e => k it (by simp) o e
  item := by
    intro X hP hw hK hc i pins s σ H E I hf st hg
    subst hP hw hK
    obtain ⟨xs, x, hq, hx⟩ := hg
    obtain ⟨its, rv, p, hz⟩ := I.list hq
    obtain ⟨u, hu, ru⟩ := rv.get hx
    obtain ⟨f0, f1, f2, f3, f4, f5⟩ := hf it (by simp)
    refine wpAny_pyNext_list_item st p.isList (x := u) (by simpa using hu) fun h' st' sb => ?_
    have I1 : Inv X pins σ H { s with heap := h' } := I.turned (t' := s.toks) (fun b o hb e => (sb.2 b hb).trans e) f0 f1 f3 f4 f5
    obtain ⟨o, e, c, d⟩ := id st'
    exact ⟨u, rfl, go_of (s := { s with heap := h' }) e c d (by decide) ⟨x, H, I1, ru, ⟨rfl, fun ys hy => by rw [I.list_inj hy hq]; exact hx⟩, st', fun b hb => (hf b hb).1⟩⟩
  done := by
    intro X hP hw hK hc i pins s σ H E I hf st hg
    subst hP hw hK
    obtain ⟨xs, hq, hx⟩ := hg
    obtain ⟨its, rv, p, hz⟩ := I.list hq
    obtain ⟨f0, f1, f2, f3, f4, f5⟩ := hf it (by simp)
    have hl := rv.length
    exact wpAny_pyNext_list_end (I.ok.hd hc) st p.isList (by simp; omega) fun h' eb => ⟨rfl, I.turned (t' := s.toks) (fun b o hb e => eb b o hb e) f0 f1 f3 f4 f5⟩
  self := fun _ _ _ _ _ st h => wpAny_pyIter_listiter st h
theorem turn_range {P : Program} {w : World} {K : PySem.W.Frag} {tg : Expr} (it : Addr) (lo : Int) (n : Nat) : Turn P w K tg (Itr lo n) [it] it (fun i h => IsRangeIter h it (lo + (i : Nat) * 1) ((n : Int) - (i : Nat)) 1) where
  mem := by simp
  obj := fun i h st b hb => by
    have e : b = it := by simpa using hb
    subst e
    exact ⟨_, st, fun v z => by
      have z' : Data.fields _ = Data.cell v := z
      cases z'⟩
  keep := fun i h h' st k => k it (by simp) _ st
  item := by
    intro X hP hw hK hc i pins s σ H E I hf st hg
    subst hP hw hK
    obtain ⟨f0, f1, f2, f3, f4, f5⟩ := hf it (by simp)
    have W := Walks.range (prog := X.prog) (w := X.w) (I.ok.hd hc) it lo 1 n
    refine W.item i s _ _ hg st fun v h' tk hv st' kk => ?_
    obtain ⟨t, rfl⟩ := hv
    have I1 : Inv X pins σ H { s with heap := h', toks := tk } := I.turned (fun b o hb e => kk b o (by simpa using hb) e) f0 f1 f3 f4 f5
    refine ⟨_, rfl, go_of (s := { s with heap := h', toks := tk }) (n := "range_iterator") st' rfl rfl (by decide) ⟨.int (lo + i), H, I1, ⟨t, ?_⟩, ⟨rfl, rfl⟩, st', fun b hb => (hf b hb).1⟩⟩
    rw [Int.mul_one]
  done := by
    intro X hP hw hK hc i pins s σ H E I hf st hg
    subst hP hw hK
    obtain ⟨f0, f1, f2, f3, f4, f5⟩ := hf it (by simp)
    exact wpAny_pyNext_range_end (I.ok.hd hc) st (by have : n ≤ i := hg; omega) fun h' eb => ⟨rfl, I.turned (t' := s.toks) (fun b o hb e => eb b o hb e) f0 f1 f3 f4 f5⟩
  self := fun _ _ _ _ _ st h => wpAny_pyIter_rangeiter st h
end L2

namespace L2
open PySem PySem.Spec PyProof.Rows
section
variable {X : Cx} {tg : Expr}
def iList (K : PySem.W.Frag) (tl : TE) : TI := fun σ H R => tl σ H fun x H1 => ∃ a, x = .ref a ∧ (∃ xs, SqL K H1 a xs) ∧ R (Itl K a) H1
def iTup (K : PySem.W.Frag) (tl : TE) : TI := fun σ H R => tl σ H fun x H1 => ∃ a, x = .ref a ∧ (∃ xs, SqT K H1 a xs) ∧ R (Itt K a) H1
theorem pi_list {l : Expr} {tl : TE} (hl : PE X l tl) : PI X tg l (iList X.K tl) := by
  intro pins s σ H R I h
  refine thn (hl pins s σ H _ I h) fun v s1 ⟨x, H1, I1, r1, q1⟩ => ?_
  obtain ⟨a, e, ⟨xs, hq⟩, q⟩ := q1
  subst e
  cases r1
  obtain ⟨its, rv, p, hz⟩ := I1.list hq
  refine wpAny_pyIter_list p.isList ?_
  refine ⟨s1.heap.objs.size, [s1.heap.objs.size], _, _, H1, rfl, I1.kept (t' := s1.toks) fun b o e => Heap.get?_push_of_some _ e, turn_list a _, ⟨_, Heap.get?_push_size _ rfl, rfl, rfl⟩, fun b hb => ?_, q⟩
  have e : b = s1.heap.objs.size := by simpa using hb
  subst e
  exact I1.fpOk (Nat.le_refl _) (I1.hok.fresh (Nat.le_refl _))
/-- a range object just made, walked -/
theorem range_it {pins : List (Addr × Obj)} {σ : St} {H : Hp} {s : Shared} {R : It → Hp → Prop} {E : Value → Shared → Prop} {lo hi : Int} {t u v : Tok} {tk : Nat} (I : Inv X pins σ H s) (h1 : -(2 ^ 62) ≤ lo) (h2 : lo < 2 ^ 62) (h3 : -(2 ^ 62) ≤ hi) (h4 : hi < 2 ^ 62)
    (q : R (Itr lo (hi - lo).toNat) H) : wpAny (model X.prog X.w) X.A (pyIter (.ref s.heap.objs.size)) (PIE X pins σ tg R) E { s with heap := s.heap.push { cls := .type "range", data := .fields #[.int lo t, .int hi u, .int 1 v] }, toks := tk } := by
  refine wpAny_pyIter_range (IsRange.new ..) (small_one h1 h2 h3 h4) ?_
  have I1 : Inv X pins σ H { s with heap := s.heap.push { cls := .type "range", data := .fields #[.int lo t, .int hi u, .int 1 v] }, toks := tk } := I.kept fun b o e => Heap.get?_push_of_some _ e
  refine ⟨(s.heap.push { cls := .type "range", data := .fields #[.int lo t, .int hi u, .int 1 v] }).objs.size, [(s.heap.push { cls := .type "range", data := .fields #[.int lo t, .int hi u, .int 1 v] }).objs.size], _, _, H, rfl,
    I1.kept (t' := tk) fun b o e => Heap.get?_push_of_some _ e, turn_range _ lo (hi - lo).toNat, ?_, fun b hb => ?_, q⟩
  · have e1 : lo + ((0 : Nat) : Int) * 1 = lo := by simp
    have e2 : (((hi - lo).toNat : Nat) : Int) - ((0 : Nat) : Int) = Builtin.Range.rangeSize lo hi 1 := by rw [rangeSize_one]; split <;> omega
    show IsRangeIter _ _ (lo + ((0 : Nat) : Int) * 1) ((((hi - lo).toNat : Nat) : Int) - ((0 : Nat) : Int)) 1
    rw [e1, e2]
    exact Heap.get?_push_size _ rfl
  · have e : b = (s.heap.push { cls := .type "range", data := .fields #[.int lo t, .int hi u, .int 1 v] }).objs.size := by simpa using hb
    subst e
    exact I1.fpOk (Nat.le_refl _) (I1.hok.fresh (Nat.le_refl _))
def iRng1 (ta : TA) : TI := fun σ H R => ta σ H fun vs H1 => ∃ j : Int, vs = [.int j] ∧ -(2 ^ 62) ≤ j ∧ j < 2 ^ 62 ∧ R (Itr 0 j.toNat) H1
def iRng2 (ta : TA) : TI := fun σ H R => ta σ H fun vs H1 => ∃ i j : Int, vs = [.int i, .int j] ∧ (-(2 ^ 62) ≤ i ∧ i < 2 ^ 62 ∧ -(2 ^ 62) ≤ j ∧ j < 2 ^ 62) ∧ R (Itr i (j - i).toNat) H1
theorem pi_range1 {a : Expr} {ta : TA} {p pos : Pos} (hg : Gl X "range") (hm : X.mg "range" = none) (ha : PA X [a] ta) (hs : starEach [a] X.env = [(false, eval a X.env)] := by rfl) : PI X tg (.Call (.Name "range" p) [a] [] pos) (iRng1 ta) := by
  intro pins s σ H R I h
  refine Call_ (ld_blt I hg hm boot_range (PyProof.Rows.callWith_type1 (thn (ha pos pins s σ H _ I h) fun us s1 ⟨vs, H1, I1, r1, q1⟩ => ?_) hs rfl))
  obtain ⟨j, e, q1, q2, q⟩ := q1
  subst e
  cases r1 with
  | cons r rr =>
    cases rr
    obtain ⟨t, rfl⟩ := r
    exact call_range_1 (range_it I1 (by omega) (by omega) q1 q2 (by simpa using q))
theorem pi_range2 {a b : Expr} {ta : TA} {p pos : Pos} (hg : Gl X "range") (hm : X.mg "range" = none) (ha : PA X [a, b] ta) (hs : starEach [a, b] X.env = [(false, eval a X.env), (false, eval b X.env)] := by rfl) (hs2 : starEach [b] X.env = [(false, eval b X.env)] := by rfl) :
    PI X tg (.Call (.Name "range" p) [a, b] [] pos) (iRng2 ta) := by
  intro pins s σ H R I h
  refine Call_ (ld_blt I hg hm boot_range (PyProof.Rows.callWith_type1 (thn (ha pos pins s σ H _ I h) fun us s1 ⟨vs, H1, I1, r1, q1⟩ => ?_) (by rw [hs, hs2]) (by rw [hs2]; rfl)))
  obtain ⟨i, j, e, ⟨q1, q2, q3, q4⟩, q⟩ := q1
  subst e
  cases r1 with
  | cons r rr =>
    cases rr with
    | cons r' rr =>
      cases rr
      obtain ⟨t, rfl⟩ := r
      obtain ⟨t', rfl⟩ := r'
      exact call_range_2 (range_it I1 q1 q2 q3 q4 q)

/-! ### for -/
/-- W: the invariant by the turn and a measure; N: what the body is to reach -/
def tFor (wi : TI) (g : TG) (tb : TS) : TS := fun D σ H => wi σ H fun J H1 => ∃ W : Nat → Nat → St → Hp → Prop, (∃ m, W 0 m σ H1) ∧ ∀ i m σ H, W i m σ H →
  (J.stop i H ∧ D.nx σ H) ∨ (J.go i H ∧ ∃ N : St → Hp → Prop, (∀ σ' H', N σ' H' → ∃ m', m' < m ∧ W (i + 1) m' σ' H') ∧ ∀ x H', J.yld i H x H' → g x σ H' fun σ2 H2 => tb { D with nx := N, ct := N, bk := D.nx } σ2 H2)
/-- the records at fp as they stand -/
def pinsAt (fp : List Addr) (h : Heap) : List (Addr × Obj) := fp.filterMap fun b => (h.get? b).map fun o => (b, o)
theorem mem_pinsAt {fp : List Addr} {h : Heap} {b : Addr} {o : Obj} (hb : b ∈ fp) (e : h.get? b = some o) : (b, o) ∈ pinsAt fp h := List.mem_filterMap.mpr ⟨b, hb, by rw [e]; rfl⟩
theorem of_pinsAt {fp : List Addr} {h : Heap} {p : Addr × Obj} (hp : p ∈ pinsAt fp h) : p.1 ∈ fp ∧ h.get? p.1 = some p.2 := by
  obtain ⟨b, hb, e⟩ := List.mem_filterMap.mp hp
  cases q : h.get? b with
  | none => rw [q] at e; cases e
  | some o =>
    rw [q] at e
    have e' : (b, o) = p := Option.some.inj e
    subst e'
    exact ⟨hb, q⟩
theorem Inv.pinned {pins : List (Addr × Obj)} {σ : St} {H : Hp} {s : Shared} {fp : List Addr} (I : Inv X pins σ H s) (hf : ∀ b ∈ fp, FpOk X pins H b) (ho : ∀ b ∈ fp, ∃ o, s.heap.get? b = some o ∧ ∀ v, o.data ≠ .cell v) : Inv X (pins ++ pinsAt fp s.heap) σ H s :=
  I.pins_of fun p hp => (List.mem_append.mp hp).elim (fun z => I.pin p (List.mem_append_right _ z)) fun z => by
    obtain ⟨hb, e⟩ := of_pinsAt z
    obtain ⟨f0, f1, f2, _⟩ := hf p.1 hb
    obtain ⟨o, e', d⟩ := ho p.1 hb
    rw [e] at e'; cases e'
    exact ⟨e, f0, f1, f2, d⟩
theorem Inv.unpinned {pins pl : List (Addr × Obj)} {σ : St} {H : Hp} {s : Shared} (I : Inv X (pins ++ pl) σ H s) : Inv X pins σ H s := I.pins_of fun p hp => I.pin p (List.mem_append_right _ (List.mem_append_left _ hp))
theorem ps_for {iter : Expr} {body : List Stmt} {wi : TI} {g : TG} {tb : TS} {pos : Pos} (hp : PassesOwn (model X.prog X.w) X.A X.env X.xe) (hc : X.calm = true) (hi : PI X tg iter wi) (hg : PG X tg g) (hb : PSs X body tb)
    (hs : ∀ x, foldedSetIterable iter X.env x = pure x := by intro _; rfl) : PS X (.For tg iter body [] pos) (tFor wi g tb) := by
  intro pins s σ H D I h
  refine wpAny_For (thn (hi pins s σ H _ I h) fun v s1 h1 => thn h1 fun itv s2 h2 => ?_) hs
  obtain ⟨it, fp, tn, J, H2, e, I2, T, st2, f2, W, ⟨m0, w0⟩, turn⟩ := h2
  subst e
  -- what stays true of the iterator's objects through the loop
  have stat : ∀ {H' : Hp}, (∀ b ∈ fp, H' b = none) → ∀ b ∈ fp, FpOk X pins H' b := fun hn b hb => ⟨hn b hb, (f2 b hb).2⟩
  refine codeAny_forLoop_any (fun n s' => ∃ i σ' H', Inv X pins σ' H' s' ∧ tn i s'.heap ∧ (∀ b ∈ fp, H' b = none) ∧ W i n σ' H') ?_ m0 ⟨0, σ, H2, I2, st2, fun b hb => (f2 b hb).1, w0⟩
  rintro n s3 ⟨i, σ3, H3, I3, st3, fr3, w3⟩
  rcases turn i n σ3 H3 w3 with ⟨stop, qn⟩ | ⟨go, N, hN, step⟩
  · refine wpAny_passesOwn hp (thn (T.done X rfl rfl rfl hc i pins s3 σ3 H3 X.xe I3 (stat fr3) st3 stop) fun r s4 ⟨hr, I4⟩ => ?_)
    subst hr
    exact wpAny_execs_nil ⟨σ3, H3, I4, qn⟩
  · refine wpAny_passesOwn hp (thn (T.item X rfl rfl rfl hc i pins s3 σ3 H3 X.xe I3 (stat fr3) st3 go) fun r s4 ⟨u, hr, h4⟩ => ?_)
    subst hr
    refine wpAny_passesOwn hp (thn h4 fun _ s5 ⟨x, H5, I5, r5, y5, st5, fr5⟩ => ?_)
    have I5' := I5.pinned (stat fr5) (T.obj _ _ st5)
    refine wpAny_passesOwn hp (thn (hg _ s5 σ3 H5 x u _ I5' r5 (step x H5 y5)) fun _ s6 ⟨σ6, H6, I6, q6⟩ => ?_)
    refine wpAny_passesOwn hp (thn (hb _ s6 σ6 H6 _ I6 q6) fun f s7 q7 => ?_)
    have again : ∀ {σ7 : St} {H7 : Hp}, Inv X (pins ++ pinsAt fp s5.heap) σ7 H7 s7 → N σ7 H7 → ∃ m, m < n ∧ ∃ i σ' H', Inv X pins σ' H' s7 ∧ tn i s7.heap ∧ (∀ b ∈ fp, H' b = none) ∧ W i m σ' H' := fun {σ7 H7} I7 n7 => by
      obtain ⟨m', hm, w7⟩ := hN σ7 H7 n7
      refine ⟨m', hm, i + 1, σ7, H7, I7.unpinned, T.keep _ _ _ st5 fun b hb o e => (I7.pin (b, o) (List.mem_append_right _ (List.mem_append_right _ (mem_pinsAt hb e)))).1, fun b hb => ?_, w7⟩
      obtain ⟨o, e, d⟩ := T.obj _ _ st5 b hb
      exact (I7.pin (b, o) (List.mem_append_right _ (List.mem_append_right _ (mem_pinsAt hb e)))).2.1
    cases f with
    | next => obtain ⟨σ7, H7, I7, n7⟩ := q7; exact again I7 n7
    | cont => obtain ⟨σ7, H7, I7, n7⟩ := q7; exact again I7 n7
    | brk => obtain ⟨σ7, H7, I7, q7⟩ := q7; exact ⟨σ7, H7, I7.unpinned, q7⟩
    | ret v => obtain ⟨x7, σ7, H7, I7, r7, q7⟩ := q7; exact ⟨x7, σ7, H7, I7.unpinned, r7, q7⟩
end

/-! ### the forms one uses -/
/-- over a list that the body leaves as it is -/
theorem for_list {K : PySem.W.Frag} {a : Addr} {xs : List V} {g : TG} {tb : TS} {D : Ends} {σ : St} {H : Hp} (Pv : Nat → St → Hp → Prop) (h0 : Pv 0 σ H) (hl : ∀ i σ H, i ≤ xs.length → Pv i σ H → SqL K H a xs)
    (hs : ∀ i x σ H, xs[i]? = some x → Pv i σ H → g x σ H fun σ2 H2 => tb { D with nx := Pv (i + 1), ct := Pv (i + 1), bk := D.nx } σ2 H2) (hd : ∀ σ H, Pv xs.length σ H → D.nx σ H) :
    ∃ W : Nat → Nat → St → Hp → Prop, (∃ m, W 0 m σ H) ∧ ∀ i m σ H, W i m σ H →
      ((Itl K a).stop i H ∧ D.nx σ H) ∨ ((Itl K a).go i H ∧ ∃ N : St → Hp → Prop, (∀ σ' H', N σ' H' → ∃ m', m' < m ∧ W (i + 1) m' σ' H') ∧ ∀ x H', (Itl K a).yld i H x H' → g x σ H' fun σ2 H2 => tb { D with nx := N, ct := N, bk := D.nx } σ2 H2) := by
  refine ⟨fun i m σ H => m = xs.length - i ∧ i ≤ xs.length ∧ Pv i σ H, ⟨xs.length, by simp, Nat.zero_le _, h0⟩, ?_⟩
  rintro i m σ H ⟨rfl, hi, p⟩
  have q := hl i σ H hi p
  by_cases hlt : i < xs.length
  · refine .inr ⟨⟨xs, xs[i], q, by simp [hlt]⟩, Pv (i + 1), fun σ' H' p' => ⟨xs.length - (i + 1), by omega, rfl, hlt, p'⟩, fun x H' y => ?_⟩
    obtain ⟨e, y⟩ := y
    subst e
    exact hs i x σ _ (y xs q) p
  · have e : i = xs.length := by omega
    subst e
    exact .inl ⟨⟨xs, q, Nat.le_refl _⟩, hd σ H p⟩
theorem for_range {lo : Int} {n : Nat} {g : TG} {tb : TS} {D : Ends} {σ : St} {H : Hp} (Pv : Nat → St → Hp → Prop) (h0 : Pv 0 σ H)
    (hs : ∀ i σ H, i < n → Pv i σ H → g (.int (lo + i)) σ H fun σ2 H2 => tb { D with nx := Pv (i + 1), ct := Pv (i + 1), bk := D.nx } σ2 H2) (hd : ∀ σ H, Pv n σ H → D.nx σ H) :
    ∃ W : Nat → Nat → St → Hp → Prop, (∃ m, W 0 m σ H) ∧ ∀ i m σ H, W i m σ H →
      ((Itr lo n).stop i H ∧ D.nx σ H) ∨ ((Itr lo n).go i H ∧ ∃ N : St → Hp → Prop, (∀ σ' H', N σ' H' → ∃ m', m' < m ∧ W (i + 1) m' σ' H') ∧ ∀ x H', (Itr lo n).yld i H x H' → g x σ H' fun σ2 H2 => tb { D with nx := N, ct := N, bk := D.nx } σ2 H2) := by
  refine ⟨fun i m σ H => m = n - i ∧ i ≤ n ∧ Pv i σ H, ⟨n, by simp, Nat.zero_le _, h0⟩, ?_⟩
  rintro i m σ H ⟨rfl, hi, p⟩
  by_cases hlt : i < n
  · refine .inr ⟨hlt, Pv (i + 1), fun σ' H' p' => ⟨n - (i + 1), by omega, rfl, hlt, p'⟩, fun x H' y => ?_⟩
    obtain ⟨e, y⟩ := y
    subst e y
    exact hs i σ _ hlt p
  · have e : i = n := by omega
    subst e
    exact .inl ⟨Nat.le_refl _, hd σ H p⟩
end L2

namespace L2
open PySem PySem.Spec PyProof.Rows

abbrev R2 := V → V → Hp → VK → Prop
/-- a two-place operation on values: f is binaryOp op, inplaceOp op or compareOp op -/
def OpR (X : Cx) (f : Value → Value → Sem Value) (r : R2) : Prop :=
  ∀ (pins : List (Addr × Obj)) (s : Shared) (σ : St) (H : Hp) (x y : V) (v u : Value) (Q : VK), Inv X pins σ H s → RelV x v → RelV y u → r x y H Q →
    wpAny (model X.prog X.w) X.A (f v u) (EP X pins σ Q) X.xe s
/-- a one-place operation -/
def UnR (X : Cx) (f : Value → Sem Value) (r : V → Hp → VK → Prop) : Prop :=
  ∀ (pins : List (Addr × Obj)) (s : Shared) (σ : St) (H : Hp) (x : V) (v : Value) (Q : VK), Inv X pins σ H s → RelV x v → r x H Q →
    wpAny (model X.prog X.w) X.A (f v) (EP X pins σ Q) X.xe s
/-- a call of a value that is known (a builtin, a type) with values -/
def CallR (X : Cx) (f : Value) (r : List V → Hp → VK → Prop) : Prop :=
  ∀ (pins : List (Addr × Obj)) (s : Shared) (σ : St) (H : Hp) (xs : List V) (us : List Value) (Q : VK), Inv X pins σ H s → Vals xs us → r xs H Q →
    wpAny (model X.prog X.w) X.A (call f us) (EP X pins σ Q) X.xe s
/-- a value's truth -/
def TruR (X : Cx) (r : V → Hp → (Bool → Hp → Prop) → Prop) : Prop :=
  ∀ (pins : List (Addr × Obj)) (s : Shared) (σ : St) (H : Hp) (x : V) (v : Value) (Q : Bool → Hp → Prop), Inv X pins σ H s → RelV x v → r x H Q →
    wpAny (model X.prog X.w) X.A (truthy v) (TP X pins σ Q) X.xe s

def tOp (r : R2) (ta tb : TE) : TE := fun σ H Q => ta σ H fun x H1 => tb σ H1 fun y H2 => r x y H2 Q
def tUn (r : V → Hp → VK → Prop) (ta : TE) : TE := fun σ H Q => ta σ H fun x H1 => r x H1 Q
/-- ints in, under C, and a value out -/
def rI (C : Int → Int → Prop) (g : Int → Int → V) : R2 := fun x y H Q => ∃ i j, x = .int i ∧ y = .int j ∧ C i j ∧ Q (g i j) H
def rI0 (g : Int → Int → V) : R2 := fun x y H Q => ∃ i j, x = .int i ∧ y = .int j ∧ Q (g i j) H
def rU (g : Int → V) : V → Hp → VK → Prop := fun x H Q => ∃ i, x = .int i ∧ Q (g i) H

section
variable {X : Cx} {a b c : Expr} {ta tb tc : TE} {pos : Pos}

theorem binT (ha : PE X a ta) (hb : PE X b tb) {pins : List (Addr × Obj)} {s : Shared} {σ : St} {H : Hp} {R : V → V → Hp → Prop} (I : Inv X pins σ H s)
    (h : ta σ H fun x H1 => tb σ H1 fun y H2 => R x y H2) {Q : Value → Shared → Prop} {f : Value → Value → Sem Value}
    (hf : ∀ v u s2 x y H2, Inv X pins σ H2 s2 → RelV x v → RelV y u → R x y H2 → wpAny (model X.prog X.w) X.A (f v u) Q X.xe s2) :
    wpAny (model X.prog X.w) X.A (eval a X.env) (fun v s₁ => wpAny (model X.prog X.w) X.A (eval b X.env) (fun u s₂ => wpAny (model X.prog X.w) X.A (f v u) Q X.xe s₂) X.xe s₁) X.xe s := by
  refine thn (ha pins s σ H _ I h) fun v s1 ⟨x, H1, I1, r1, q1⟩ => ?_
  refine thn (hb pins s1 σ H1 _ I1 q1) fun u s2 ⟨y, H2, I2, r2, q2⟩ => ?_
  exact hf v u s2 x y H2 I2 r1 r2 q2

theorem pe_op {op : Operator} {r : R2} (ho : OpR X (binaryOp op) r) (ha : PE X a ta) (hb : PE X b tb) : PE X (.BinOp a op b pos) (tOp r ta tb) := by
  intro pins s σ H Q I h
  exact wpAny_BinOp (binT ha hb I h fun v u s2 x y H2 I2 rx ry q => ho pins s2 σ H2 x y v u Q I2 rx ry q)
/-! ### ints -/
theorem opI {f : Value → Value → Sem Value} {C : Int → Int → Prop} {g : Int → Int → Int}
    (rule : ∀ (i j : Int) (t u : Tok) (s : Shared) (Q : Value → Shared → Prop) (E : Value → Shared → Prop), C i j → Q (.int (g i j) s.toks) { s with toks := s.toks + 1 } → wpAny (model X.prog X.w) X.A (f (.int i t) (.int j u)) Q E s) :
    OpR X f (rI C fun i j => .int (g i j)) := by
  intro pins s σ H x y v u Q I rx ry h
  obtain ⟨i, j, rfl, rfl, hc, q⟩ := h
  obtain ⟨t, rfl⟩ := rx
  obtain ⟨t', rfl⟩ := ry
  exact rule i j t t' s _ _ hc ⟨.int (g i j), H, I.tok _, ⟨_, rfl⟩, q⟩
theorem opI0 {f : Value → Value → Sem Value} {g : Int → Int → Int}
    (rule : ∀ (i j : Int) (t u : Tok) (s : Shared) (Q : Value → Shared → Prop) (E : Value → Shared → Prop), Q (.int (g i j) s.toks) { s with toks := s.toks + 1 } → wpAny (model X.prog X.w) X.A (f (.int i t) (.int j u)) Q E s) :
    OpR X f (rI0 fun i j => .int (g i j)) := by
  intro pins s σ H x y v u Q I rx ry h
  obtain ⟨i, j, rfl, rfl, q⟩ := h
  obtain ⟨t, rfl⟩ := rx
  obtain ⟨t', rfl⟩ := ry
  exact rule i j t t' s _ _ ⟨.int (g i j), H, I.tok _, ⟨_, rfl⟩, q⟩
theorem opB0 {f : Value → Value → Sem Value} {g : Int → Int → Bool}
    (rule : ∀ (i j : Int) (t u : Tok) (s : Shared) (Q : Value → Shared → Prop) (E : Value → Shared → Prop), Q (.bool (g i j)) s → wpAny (model X.prog X.w) X.A (f (.int i t) (.int j u)) Q E s) :
    OpR X f (rI0 fun i j => .bl (g i j)) := by
  intro pins s σ H x y v u Q I rx ry h
  obtain ⟨i, j, rfl, rfl, q⟩ := h
  obtain ⟨t, rfl⟩ := rx
  obtain ⟨t', rfl⟩ := ry
  exact rule i j t t' s _ _ ⟨.bl (g i j), H, I, rfl, q⟩

def CDiv (i j : Int) : Prop := 0 < j ∧ j < 1073741824
def CDivN (i j : Int) : Prop := j ≠ 0 ∧ j.natAbs < 1073741824
def CPow (i j : Int) : Prop := 0 ≤ j ∧ j ≤ 1000000 ∧ i.natAbs < 2 ^ 64
def CMul (i j : Int) : Prop := (-(2 ^ 64) < i ∧ i < 2 ^ 64) ∨ (-(2 ^ 64) < j ∧ j < 2 ^ 64)
theorem CMul.ok {i j : Int} (h : CMul i j) : IntMulOk i j := by
  rcases h with ⟨h1, h2⟩ | ⟨h1, h2⟩
  · exact .of_left (intBits_le_64 h1 h2)
  · exact .of_right (intBits_le_64 h1 h2)
theorem op_add : OpR X (binaryOp .Add) (rI0 fun i j => .int (i + j)) := opI0 fun _ _ _ _ _ _ _ q => add_int q
theorem op_mul : OpR X (binaryOp .Mult) (rI CMul fun i j => .int (i * j)) := opI fun _ _ _ _ _ _ _ hc q => mul_int q hc.ok
/-- // by a positive divisor -/
theorem op_fdiv : OpR X (binaryOp .FloorDiv) (rI CDiv fun i j => .int (i / j)) := opI fun i j _ _ _ _ _ hc q => by
  have h1 : (0 : Int) < j := hc.1
  have h2 : j < 1073741824 := hc.2
  exact floordiv_int (by omega) (by rw [Int.fdiv_eq_ediv_of_nonneg i (by omega)]; exact q) (.inl (PyProof.noPylong_small (by omega)))
/-- % by a positive divisor of any size -/
theorem op_mod : OpR X (binaryOp .Mod) (rI (fun _ j => 0 < j) fun i j => .int (i % j)) := opI fun i j _ _ _ _ _ hc q => by
  have h1 : (0 : Int) < j := hc
  exact mod_int' (by omega) (by rw [Int.fmod_eq_emod_of_nonneg i (by omega)]; exact q)
/-! ### bools among ints: n += (a < b) -/
end

/-! ### comparisons -/
/-- the scalars that == tells apart as data does -/
def scal : V → V → Bool
  | .non, .non => true | .non, .int _ => true | .int _, .non => true | .non, .bl _ => true | .bl _, .non => true | .non, .str _ => true | .str _, .non => true
  | .int _, .int _ => true | .bl _, .bl _ => true | .str _, .str _ => true | .byt _, .byt _ => true
  | .int _, .str _ => true | .str _, .int _ => true | .bl _, .str _ => true | .str _, .bl _ => true
  | _, _ => false
def rEq : R2 := fun x y H Q => scal x y = true ∧ Q (.bl (decide (x = y))) H
def rNe : R2 := fun x y H Q => scal x y = true ∧ Q (.bl (!decide (x = y))) H

section
variable {X : Cx} {a b c : Expr} {ta tb tc : TE} {pos : Pos}
theorem fin_bl {pins : List (Addr × Obj)} {σ : St} {H : Hp} {s : Shared} {Q : VK} {k k' : Bool} (I : Inv X pins σ H s) (q : Q (.bl k) H) (e : k = k') : EP X pins σ Q (.bool k') s := by
  subst e
  exact ⟨.bl k, H, I, rfl, q⟩
theorem op_lt : OpR X (compareOp .Lt) (rI0 fun i j => .bl (decide (i < j))) := opB0 fun _ _ _ _ _ _ _ q => lt_int q
theorem op_ge : OpR X (compareOp .GtE) (rI0 fun i j => .bl (decide (j ≤ i))) := opB0 fun _ _ _ _ _ _ _ q => ge_int q
theorem op_lt_str : OpR X (compareOp .Lt) (fun x y H Q => ∃ i j, x = .str i ∧ y = .str j ∧ Q (.bl (decide (i.cps.toList < j.cps.toList))) H) := by
  intro pins s σ H x y v u Q I rx ry h
  obtain ⟨i, j, rfl, rfl, q⟩ := h
  obtain ⟨t, rfl⟩ := rx
  obtain ⟨t', rfl⟩ := ry
  exact lt_str (fin_bl I q rfl)
/-- is None, is not None: the right side a value none -/
theorem op_isN : OpR X (compareOp .Is) (fun x y H Q => y = .non ∧ Q (.bl (decide (x = .non))) H) := by
  intro pins s σ H x y v u Q I rx ry h
  obtain ⟨rfl, q⟩ := h
  cases ry
  refine is_none_gen (fin_bl I q ?_)
  cases x <;> first
    | (cases rx; rfl)
    | (obtain ⟨t, rfl⟩ := rx; rfl)
theorem op_notN : OpR X (compareOp .IsNot) (fun x y H Q => y = .non ∧ Q (.bl (!decide (x = .non))) H) := by
  intro pins s σ H x y v u Q I rx ry h
  obtain ⟨rfl, q⟩ := h
  cases ry
  refine isnot_none_gen (fin_bl I q ?_)
  cases x <;> first
    | (cases rx; rfl)
    | (obtain ⟨t, rfl⟩ := rx; rfl)

/-- is, is not of two objects that are tracked lists or instances -/
def isObj : HO → Bool
  | .lst _ => true
  | .ins _ _ _ => true
  | _ => false
/-- two rules for one operation: by cases -/
theorem OpR.or {f : Value → Value → Sem Value} {r r' : R2} (h : OpR X f r) (h' : OpR X f r') : OpR X f (fun x y H Q => r x y H Q ∨ r' x y H Q) := by
  intro pins s σ H x y v u Q I rx ry q
  rcases q with q | q
  · exact h pins s σ H x y v u Q I rx ry q
  · exact h' pins s σ H x y v u Q I rx ry q

theorem nomark (b : Expr) {op : CmpOp} (h : op ≠ .In := by decide) (h2 : op ≠ .NotIn := by decide) : behindInMarks op b = false := by
  have e1 : (op == CmpOp.In) = false := by cases op <;> first | rfl | exact absurd rfl h
  have e2 : (op == CmpOp.NotIn) = false := by cases op <;> first | rfl | exact absurd rfl h2
  cases b <;> simp [behindInMarks, e1, e2]
/-- a comparison as a value; hm: nomark b, or (for in, not in) by with_unfolding_all rfl -/
theorem pe_cmpR {op : CmpOp} {r : R2} (ho : OpR X (compareOp op) r) (ha : PE X a ta) (hb : PE X b tb) (hm : behindInMarks op b = false) : PE X (.Compare a [op] [b] pos) (tOp r ta tb) := by
  intro pins s σ H Q I h
  exact wpAny_Compare1 (binT ha hb I h fun v u s2 x y H2 I2 rx ry q => ho pins s2 σ H2 x y v u Q I2 rx ry q) hm
/-- a reading of a value as a test -/
def tTest (t : TE) : TT := fun σ H Q => t σ H fun x H' => ∃ k, x = .bl k ∧ Q k H'
theorem pt_cmpR {op : CmpOp} {r : R2} (ho : OpR X (compareOp op) r) (ha : PE X a ta) (hb : PE X b tb) (hm : behindInMarks op b = false) : PT X (.Compare a [op] [b] pos) (tTest (tOp r ta tb)) := by
  intro pins s σ H Q I h
  refine wpAny_isTrue_Compare1 (thn (ha pins s σ H _ I h) fun v s1 ⟨x, H1, I1, r1, q1⟩ => thn (hb pins s1 σ H1 _ I1 q1) fun u s2 ⟨y, H2, I2, r2, q2⟩ =>
    thn (ho pins s2 σ H2 x y v u _ I2 r1 r2 q2) fun c s3 ⟨z, H3, I3, r3, k, e, q3⟩ => ?_) hm
  subst e
  cases r3
  exact wpAny_truthy_bool ⟨H3, I3, q3⟩
/-- a op1 b op2 c -/
def tChain (r r' : R2) (ta tb tc : TE) : TE := fun σ H Q => ta σ H fun x H1 => tb σ H1 fun y H2 => r x y H2 fun z H3 => ∃ k, z = .bl k ∧
  (if k = true then tc σ H3 fun w' H4 => r' y w' H4 Q else Q (.bl false) H3)
/-! ### truth -/
/-- a value's truth by the abstract heap -/
def TruV (K : PySem.W.Frag) (x : V) (H : Hp) (k : Bool) : Prop :=
  match x with
  | .non => k = false
  | .bl b => k = b
  | .int i => k = (i != 0)
  | .str y => y.length ≤ sizeLine ∧ k = ((y.length : Int) != 0)
  | .byt y => y.size ≤ sizeLine ∧ k = ((y.size : Int) != 0)
  | .ref p => (∃ xs, SqL K H p xs ∧ k = !xs.isEmpty) ∨ (∃ xs, SqT K H p xs ∧ k = !xs.isEmpty) ∨ ∃ kvs, H p = some (.dK kvs) ∧ k = !kvs.isEmpty
  | _ => False
theorem line63 : (sizeLine : Nat) < 2 ^ 63 := by rw [sizeLine_eq]; decide
/-! ### strs and bytes -/
theorem op_add_str : OpR X (binaryOp .Add) (fun x y H Q => ∃ i j, x = .str i ∧ y = .str j ∧ i.length + j.length ≤ sizeLine ∧ Q (.str (i ++ j)) H) := by
  intro pins s σ H x y v u Q I rx ry h
  obtain ⟨i, j, rfl, rfl, hz, q⟩ := h
  obtain ⟨t, rfl⟩ := rx
  obtain ⟨t', rfl⟩ := ry
  exact add_str (fun t' tk => ⟨.str (i ++ j), H, I.tok _, ⟨_, rfl⟩, q⟩) hz
def PlainIxT (b : Expr) : Prop := ∀ o i, subscripted b false o i = operate [o, i] (getItem o i)
/-! ### scalar builtins, by CallR -/
theorem vals1 {x : V} {us : List Value} (r : Vals [x] us) : ∃ u, us = [u] ∧ RelV x u := by
  cases r with
  | cons r1 r2 => cases r2; exact ⟨_, rfl, r1⟩
theorem vals2 {x y : V} {us : List Value} (r : Vals [x, y] us) : ∃ u w', us = [u, w'] ∧ RelV x u ∧ RelV y w' := by
  cases r with
  | cons r1 r2 =>
    cases r2 with
    | cons r3 r4 => cases r4; exact ⟨_, _, rfl, r1, r3⟩
theorem call_min2 (hc : X.calm = true) : CallR X (.builtin "min") (fun xs H Q => ∃ i j, xs = [.int i, .int j] ∧ Q (.int (if j < i then j else i)) H) := by
  intro pins s σ H xs us Q I r h
  obtain ⟨i, j, rfl, q⟩ := h
  obtain ⟨u, w', rfl, ⟨t, rfl⟩, ⟨t', rfl⟩⟩ := vals2 r
  refine min_two_ints (I.ok.hd hc) fun h' tk k => ⟨_, H, I.kept k, ?_, q⟩
  by_cases hj : j < i
  · rw [if_pos hj, if_pos hj]; exact ⟨_, rfl⟩
  · rw [if_neg hj, if_neg hj]; exact ⟨_, rfl⟩
theorem call_str_int : CallR X (.type "str") (fun xs H Q => ∃ i, xs = [.int i] ∧ i.natAbs.log2 < 1920 ∧ Q (.str (toString i)) H) := by
  intro pins s σ H xs us Q I r h
  obtain ⟨i, rfl, hz, q⟩ := h
  obtain ⟨u, rfl, t, rfl⟩ := vals1 r
  exact PySem.P.str_of_int hz ⟨.str _, H, I.tok _, ⟨_, rfl⟩, q⟩
/-- len of a str, a bytes, a list, a tuple -/
def LenV (K : PySem.W.Frag) (x : V) (H : Hp) (n : Nat) : Prop :=
  match x with
  | .str y => y.length ≤ sizeLine ∧ n = y.length
  | .byt y => y.size ≤ sizeLine ∧ n = y.size
  | .ref p => (∃ xs, SqL K H p xs ∧ n = xs.length) ∨ ∃ xs, SqT K H p xs ∧ n = xs.length
  | _ => False
theorem call_len : CallR X (.builtin "len") (fun xs H Q => ∃ x n, xs = [x] ∧ LenV X.K x H n ∧ Q (.int n) H) := by
  intro pins s σ H xs us Q I r h
  obtain ⟨x, n, rfl, e, q⟩ := h
  obtain ⟨u, rfl, rx⟩ := vals1 r
  have hl := line63
  have hs : sizeLine = 16777216 := sizeLine_eq
  cases x with
  | str y =>
    obtain ⟨t, rfl⟩ := rx
    obtain ⟨hy, e'⟩ : y.length ≤ sizeLine ∧ n = y.length := e
    subst e'
    exact len_str (by omega) ⟨.int _, H, I.tok _, ⟨_, rfl⟩, q⟩
  | byt y =>
    obtain ⟨t, rfl⟩ := rx
    obtain ⟨hy, e'⟩ : y.size ≤ sizeLine ∧ n = y.size := e
    subst e'
    exact PySem.W.len_bytes (by omega) ⟨.int _, H, I.tok _, ⟨_, rfl⟩, q⟩
  | ref p =>
    cases rx
    have e' : (∃ xs, SqL X.K H p xs ∧ n = xs.length) ∨ ∃ xs, SqT X.K H p xs ∧ n = xs.length := e
    rcases e' with ⟨xs, hx, e'⟩ | ⟨xs, hx, e'⟩
    · subst e'
      obtain ⟨its, r', pl, hz⟩ := I.list hx
      have hlen := r'.length
      exact Calls.call_len_list pl.isList (by simp only [List.size_toArray]; omega) ⟨.int xs.length, H, I.tok _, ⟨_, by simp only [List.size_toArray]; rw [hlen]⟩, q⟩
    · subst e'
      obtain ⟨its, r', pl, hz⟩ := I.tuple hx
      have hlen := r'.length
      exact len_tuple pl (by simp only [List.size_toArray]; omega) ⟨.int xs.length, H, I.tok _, ⟨_, by simp only [List.size_toArray]; rw [hlen]⟩, q⟩
  | _ => exact (show False from e).elim
end
end L2

namespace L2
open PySem PySem.Spec PyProof.Rows

/-! ### an instance, its attributes a map -/
structure ObjM (h : Heap) (x dx C : Addr) (mA : Str → Option Value) : Prop where
  obj : h.get? x = some (PySem.W.instObj C dx)
  ns : h.Ns1 dx mA
  ne : dx ≠ x

theorem lookIn_ns {h : Heap} {dx : Addr} {mA : Str → Option Value} (n : h.Ns1 dx mA) : ∃ od, h.get? dx = some od ∧ ∀ name, PySem.W.lookIn name od = some (mA name) := by
  obtain ⟨o, es, ep, ho, hd, hk, _, hm⟩ := n
  refine ⟨o, ho, fun name => ?_⟩
  have e := hm name
  unfold nsFind findBy at e
  rw [← Array.find?_toList] at e
  unfold PySem.W.lookIn
  rw [hd]
  dsimp only
  split
  · rename_i y q
    rw [q] at e
    exact congrArg some e
  · rename_i q
    rw [q] at e
    have a : es.toList.any (·.refKey) = false := by
      rw [List.any_eq_false]
      intro y hy
      obtain ⟨z, t, hkey⟩ := hk y (Array.mem_toList_iff.mp hy)
      simp [DictEntry.refKey, hkey]
    have a' : ¬ es.toList.any (·.refKey) = true := by rw [a]; exact Bool.false_ne_true
    rw [if_neg a']
    exact congrArg some e

theorem ObjM.look {h : Heap} {x dx C : Addr} {mA : Str → Option Value} (I : ObjM h x dx C mA) : ∃ od, PySem.W.InstAt h x (PySem.W.instObj C dx) C (some od) ∧ ∀ name, PySem.W.lookIn name od = some (mA name) :=
  let ⟨od, ho, hl⟩ := lookIn_ns I.ns
  ⟨od, ⟨I.obj, rfl, rfl, ho⟩, hl⟩

section
variable {prog : Program} {w : World} {A : Around} {E : Value → Shared → Prop} {s : Shared} {K : PySem.W.Frag} {x dx C f : Addr} {mA : Str → Option Value} {name : Str} {v : Value}

theorem get_map {expr : Bool} {Q : Value → Shared → Prop} (X : K.In s.heap) (I : ObjM s.heap x dx C mA) (hg : PySem.W.plainGet K C name = true) (hh : PySem.W.hasDictIn K C = true)
    (ha : PySem.W.findIn K (.ref C) name = some none) (hv : mA name = some v) (hv' : PySem.W.handedIn v = true) (h : Q v { s with toks := s.toks + 1 }) :
    wpAny (model prog w) A (getAttr (.ref x) name expr) Q E s := by
  obtain ⟨od, J, hl⟩ := I.look
  exact PySem.W.get_value X J (PySem.W.plainGet_of hg).1 (PySem.W.findObj_own hh ha rfl (by rw [hl, hv])) hv' h

theorem get_meth {pl : Sem Bool} {Q : Value × List Value → Shared → Prop} (X : K.In s.heap) (I : ObjM s.heap x dx C mA) (hg : PySem.W.plainGet K C name = true)
    (hf : PySem.W.findIn K (.ref C) name = some (some (.ref f))) (ht : PySem.W.isFn K (.ref f) = true) (hv : mA name = none) (h : Q (.ref f, [.ref x]) s) :
    wpAny (model prog w) A (getMethod (.ref x) name pl) Q E s := by
  obtain ⟨od, J, hl⟩ := I.look
  exact PySem.W.method_fn X J (PySem.W.plainGet_of hg).1 (PySem.W.plainGet_of hg).2 hf (beq_iff_eq.mp ht) (by show (PySem.W.lookIn name od).map (·.isSome) = some false; rw [hl, hv]; rfl) h

theorem set_map {ns : List Str} {Q : Unit → Shared → Prop} (X : K.In s.heap) (I : ObjM s.heap x dx C mA)
    (hs : PySem.W.findIn K (.ref C) "__setattr__" = some (some (.builtin "object.__setattr__"))) (hp : PySem.W.plainOver K C = true) (ht : PySem.W.takerIn K C name = some none) (hh : PySem.W.hasDictIn K C = true)
    (hw : PySem.Within mA ns) (hsz : ns.length ≤ sizeLine)
    (h : ∀ h', ObjM h' x dx C (fun y => if y = name then some v else mA y) → Heap.SameBut dx s.heap h' → Q () { s with heap := h', toks := s.toks + 2 }) :
    wpAny (model prog w) A (setAttr (.ref x) name v) Q E s := by
  obtain ⟨od, J, hl⟩ := I.look
  refine PySem.W.set_plain X J hs (PySem.W.osa_open (s := { s with toks := s.toks + 1 }) (r := none) X J hp ht fun b => ?_)
  obtain ⟨cd, hc, hd'⟩ := PySem.W.any_some hh
  have hx : s.heap.get? x = some ⟨.ref C, some dx, .plain, #[]⟩ := I.obj
  refine wpAny_bind (wpAny_pure (wpAny_bind (wpAny_bind (wpAny_loadPart hx (wpAny_bind (PySem.W.Looks.here (s := { s with toks := s.toks + 1 }) (PySem.W.looks_clsIn X hc) ?_))))))
  rw [hd']
  refine wpAny_pure (a := some dx) (wpAny_bind (wpAny_pure (wpAny_bind ?_)))
  refine wpAny_nsSet1 (s := { s with toks := s.toks + 1 }) I.ns fun h' hn2 hs2 => ?_
  obtain ⟨oD, esD, epD, hoD, hdD, hcD⟩ := hn2.count (PySem.Within.cons name v hw)
  refine wpAny_bind (wpAny_lookBehind hoD (by rw [hdD]; exact pastItsLine_dict (Nat.le_trans hcD (by rw [List.length_cons]; omega))) ?_)
  exact wpAny_pure (h _ ⟨(hs2.2 _ (Ne.symm I.ne)).trans I.obj, hn2, I.ne⟩ hs2)

/-- C(..): the dict at the heap's end, the instance behind it; then its __init__ -/
theorem make_map {R : Result → Shared → Prop} {vs : List Value} {kw : List (Str × Value)} (X : K.In s.heap) (hm : PySem.W.makesIn K C = true)
    (hi : PySem.W.findIn K (.ref C) "__init__" = some (some (.ref f))) (hf : PySem.W.typeIn K (.ref f) = some (.type "function"))
    (h : codeAny (model prog w) (A.under (.builtin "type.__call__" ⟨.ref C :: vs, kw⟩)) (.call (.ref f) ⟨.ref (s.heap.objs.size + 1) :: vs, kw⟩) (PySem.W.InitBack (s.heap.objs.size + 1) R)
      { s with heap := (s.heap.push PySem.W.emptyDict).push (PySem.W.instObj C s.heap.objs.size) }) :
    codeAny (model prog w) A (.call (.ref C) ⟨vs, kw⟩) R s := by
  obtain ⟨hh, g, d, t, os⟩ := s
  exact PySem.W.make_core (PySem.W.makes_of X hm) (PySem.W.looks_findIn X hi) (fun self => PySem.W.bind_fn X self hf) (.inl rfl) h
end

/-! ### the attributes as a list of pairs -/
def putF (f : Str) (v : V) : List (Str × V) → List (Str × V)
  | [] => [(f, v)]
  | (g, x) :: r => if g = f then (g, v) :: r else (g, x) :: putF f v r
theorem lookup_putF (f g : Str) (v : V) : ∀ fs : List (Str × V), (putF f v fs).lookup g = if g = f then some v else fs.lookup g
  | [] => by
    show List.lookup g [(f, v)] = _
    by_cases h : g = f
    · have hb : (g == f) = true := beq_iff_eq.mpr h
      simp only [List.lookup, hb, if_pos h]
    · have hb : (g == f) = false := beq_eq_false_iff_ne.mpr h
      simp only [List.lookup, hb, if_neg h]
  | (k, x) :: r => by
    have ih := lookup_putF f g v r
    rw [show putF f v ((k, x) :: r) = (if k = f then (k, v) :: r else (k, x) :: putF f v r) from rfl]
    by_cases hk : k = f
    · rw [if_pos hk]
      by_cases h : g = k
      · have hb : (g == k) = true := beq_iff_eq.mpr h
        simp only [List.lookup, hb, if_pos (h.trans hk)]
      · have hb : (g == k) = false := beq_eq_false_iff_ne.mpr h
        simp only [List.lookup, hb, if_neg (fun e : g = f => h (e.trans hk.symm))]
    · rw [if_neg hk]
      by_cases h : g = k
      · have hb : (g == k) = true := beq_iff_eq.mpr h
        simp only [List.lookup, hb, if_neg (fun e : g = f => hk (h.symm.trans e))]
      · have hb : (g == k) = false := beq_eq_false_iff_ne.mpr h
        simp only [List.lookup, hb]
        exact ih
theorem keys_putF (f : Str) (v : V) : ∀ fs : List (Str × V), f ∈ (putF f v fs).map (·.1) ∧ ∀ g, g ∈ fs.map (·.1) → g ∈ (putF f v fs).map (·.1)
  | [] => ⟨by simp [putF], fun g h => by simp at h⟩
  | (k, x) :: r => by
    obtain ⟨i1, i2⟩ := keys_putF f v r
    rw [show putF f v ((k, x) :: r) = (if k = f then (k, v) :: r else (k, x) :: putF f v r) from rfl]
    by_cases hk : k = f
    · rw [if_pos hk]
      subst hk
      exact ⟨by simp, fun g h => by simpa using h⟩
    · rw [if_neg hk]
      refine ⟨?_, fun g h => ?_⟩
      · rw [List.map_cons]
        exact List.mem_cons_of_mem _ i1
      · rw [List.map_cons] at h ⊢
        rcases List.mem_cons.mp h with e | e
        · exact List.mem_cons.mpr (.inl e)
        · exact List.mem_cons_of_mem _ (i2 g e)
theorem length_putF (f : Str) (v : V) : ∀ fs : List (Str × V), (putF f v fs).length ≤ fs.length + 1
  | [] => by simp [putF]
  | (k, x) :: r => by
    have ih := length_putF f v r
    rw [show putF f v ((k, x) :: r) = (if k = f then (k, v) :: r else (k, x) :: putF f v r) from rfl]
    by_cases hk : k = f
    · rw [if_pos hk, List.length_cons, List.length_cons]; omega
    · rw [if_neg hk, List.length_cons, List.length_cons]; omega

theorem RelO.some_of {v : V} {o : Option Value} (r : RelO (some v) o) : ∃ u, o = some u ∧ RelV v u := by
  cases o with
  | none => exact (show False from r).elim
  | some u => exact ⟨u, rfl, r⟩
theorem RelO.none_of {o : Option Value} (r : RelO none o) : o = none := by
  cases o with
  | none => rfl
  | some u => exact (show False from r).elim
theorem handed_of {v : V} {u : Value} (r : RelV v u) : PySem.W.handedIn u = true := by
  cases v with
  | non => cases (show u = Value.none from r); rfl
  | bl b => cases (show u = Value.bool b from r); rfl
  | int i => obtain ⟨t, e⟩ := (show ∃ t, u = Value.int i t from r); cases e; rfl
  | str x => obtain ⟨t, e⟩ := (show ∃ t, u = Value.str x t from r); cases e; rfl
  | byt b => obtain ⟨t, e⟩ := (show ∃ t, u = Value.bytes b t from r); cases e; rfl
  | flt b => obtain ⟨t, e⟩ := (show ∃ t, u = Value.float b t from r); cases e; rfl
  | ref a => cases (show u = Value.ref a from r); rfl
  | ty n => cases (show u = Value.type n from r); rfl

section
variable {P : Program} {w : World} {H H' : Hp} {h h' : Heap} {a C dx : Addr} {fs fs' : List (Str × V)}
theorem ins_get (hok : HOk P w H h) (e : H a = some (.ins C dx fs)) : ∃ mA, ObjM h a dx C mA ∧ (∀ f, RelO (fs.lookup f) (mA f)) ∧ PySem.Within mA (fs.map (·.1)) ∧ fs.length ≤ 1000 ∧ H dx = some (.own a) := by
  obtain ⟨d, z, ne, ob, mA, n, r, q⟩ := (show ObjOk P w H h a (.ins C dx fs) from hok a _ e)
  exact ⟨mA, ⟨ob, n, ne⟩, r, q, z, d⟩
end

/-! ### what of the text a class must have -/
structure Cls (K : PySem.W.Frag) (C : Addr) : Prop where
  pg : PySem.W.plainGet K C Str.empty = true
  hd : PySem.W.hasDictIn K C = true
  po : PySem.W.plainOver K C = true
  sa : PySem.W.findIn K (.ref C) "__setattr__" = some (some (.builtin "object.__setattr__"))
theorem Cls.get {K : PySem.W.Frag} {C : Addr} (c : Cls K C) (f : Str) : PySem.W.plainGet K C f = true := c.pg
/-- no class of it has the name -/
def NoAttr (K : PySem.W.Frag) (C : Addr) (f : Str) : Prop := PySem.W.findIn K (.ref C) f = some none
theorem NoAttr.taker {K : PySem.W.Frag} {C : Addr} {f : Str} (n : NoAttr K C f) : PySem.W.takerIn K C f = some none := by
  unfold PySem.W.takerIn
  rw [show PySem.W.findIn K (.ref C) f = some none from n]
  rfl
/-- a constant of the class -/
structure Con (K : PySem.W.Frag) (C : Addr) (f : Str) (v : V) (u : Value) : Prop where
  at_ : PySem.W.findIn K (.ref C) f = some (some u)
  rel : RelV v u
  get : PySem.W.specialIn K u "__get__" = some none
  cp : PySem.W.copiedNames.contains f = false
/-- a method: a plain def of the class or of one above it -/
structure Meth (K : PySem.W.Frag) (C : Addr) (m : Str) (f : Addr) : Prop where
  at_ : PySem.W.findIn K (.ref C) m = some (some (.ref f))
  fn : PySem.W.isFn K (.ref f) = true
  kp : PySem.W.keepIn K (.ref f) = true

section
variable {X : Cx} {pins : List (Addr × Obj)} {σ : St} {H : Hp} {s : Shared} {a C dx : Addr} {fs : List (Str × V)} {f : Str} {v : V} {A : Around} {E : Value → Shared → Prop}

theorem getattr_ok {b : Bool} {Q : Value → Shared → Prop} (I : Inv X pins σ H s) (e : H a = some (.ins C dx fs)) (c : Cls X.K C) (n : NoAttr X.K C f) (l : fs.lookup f = some v)
    (h : ∀ u s', Inv X pins σ H s' → RelV v u → Q u s') : wpAny (model X.prog X.w) A (getAttr (.ref a) f b) Q E s := by
  obtain ⟨mA, O, r, _, _, _⟩ := ins_get I.hok e
  obtain ⟨u, hu, ru⟩ := RelO.some_of (v := v) (o := mA f) (by rw [← l]; exact r f)
  exact get_map I.kIn O (c.get f) c.hd n hu (handed_of ru) (h u _ (I.tok _) ru)

theorem getmeth_ok {m : Str} {g : Addr} {pl : Sem Bool} {Q : Value × List Value → Shared → Prop} (I : Inv X pins σ H s) (e : H a = some (.ins C dx fs)) (c : Cls X.K C) (k : Meth X.K C m g) (l : fs.lookup m = none)
    (h : Q (.ref g, [.ref a]) s) : wpAny (model X.prog X.w) A (getMethod (.ref a) m pl) Q E s := by
  obtain ⟨mA, O, r, _, _, _⟩ := ins_get I.hok e
  have hn : mA m = none := RelO.none_of (by rw [← l]; exact r m)
  exact get_meth I.kIn O (c.get m) k.at_ k.fn hn h

theorem setattr_ok {y : V} {u : Value} {Q : Unit → Shared → Prop} (I : Inv X pins σ H s) (e : H a = some (.ins C dx fs)) (c : Cls X.K C) (n : NoAttr X.K C f) (hl : fs.length < 1000) (ry : RelV y u)
    (h : ∀ s', Inv X pins σ (upd H a (.ins C dx (putF f y fs))) s' → Q () s') : wpAny (model X.prog X.w) A (setAttr (.ref a) f u) Q E s := by
  obtain ⟨mA, O, r, wi, _, ho⟩ := ins_get I.hok e
  have hz : (fs.map (·.1)).length ≤ sizeLine := by rw [List.length_map, sizeLine_eq]; omega
  refine set_map I.kIn O c.sa c.po n.taker c.hd wi hz fun h' O' sb => h _ ?_
  have hd : ∃ o, h'.get? dx = some o := let ⟨o, _, _, e', _⟩ := O'.ns; ⟨o, e'⟩
  refine I.write (x := a) (e := dx) (by rw [e]; exact True.intro) (.inr ho) (fun b q hb z => (sb.2 b hb).trans z) hd ?_
  refine ⟨by rw [upd_ne O.ne]; exact ho, ?_, O.ne, O'.obj, _, O'.ns, fun g => ?_, fun g hg => ?_⟩
  · have := length_putF f y fs; omega
  · show RelO ((putF f y fs).lookup g) (if g = f then some u else mA g)
    rw [lookup_putF]
    by_cases q : g = f
    · rw [if_pos q, if_pos q]; exact ry
    · rw [if_neg q, if_neg q]; exact r g
  · by_cases q : g = f
    · rw [q]; exact (keys_putF f y fs).1
    · refine (keys_putF f y fs).2 g (wi g fun z => hg ?_)
      show (if g = f then some u else mA g) = none
      rw [if_neg q]; exact z

/-- a new instance, tracked, without attributes -/
theorem Inv.made (I : Inv X pins σ H s) : Inv X pins σ (upd (upd H s.heap.objs.size (.own (s.heap.objs.size + 1))) (s.heap.objs.size + 1) (.ins C s.heap.objs.size []))
    { s with heap := (s.heap.push PySem.W.emptyDict).push (PySem.W.instObj C s.heap.objs.size) } := by
  have e1 : (s.heap.push PySem.W.emptyDict).get? s.heap.objs.size = some PySem.W.emptyDict := Heap.get?_push_size s.heap rfl
  have e2 : ((s.heap.push PySem.W.emptyDict).push (PySem.W.instObj C s.heap.objs.size)).get? (s.heap.objs.size + 1) = some (PySem.W.instObj C s.heap.objs.size) := by
    have := Heap.get?_push_size (s.heap.push PySem.W.emptyDict) (o := PySem.W.instObj C s.heap.objs.size) rfl
    rwa [Heap.size_push] at this
  have e3 : (s.heap.push PySem.W.emptyDict).Ns s.heap.objs.size (fun _ => none) := ⟨PySem.W.emptyDict, #[], _, e1, rfl, (fun e he => absurd he (by simp)), fun _ => rfl⟩
  have I1 := I.laid (a := s.heap.objs.size) (o := .own (s.heap.objs.size + 1)) (h' := s.heap.push PySem.W.emptyDict) (t' := s.toks) (fun b u q => Heap.get?_push_of_some _ q) (Nat.le_refl _) ⟨_, e1⟩
  refine I1.laid (a := s.heap.objs.size + 1) (o := .ins C s.heap.objs.size []) (t' := s.toks) (fun b u q => Heap.get?_push_of_some _ q) (Nat.le_of_eq (Heap.size_push _ _)) ?_
  have ne : s.heap.objs.size ≠ s.heap.objs.size + 1 := Nat.ne_of_lt (Nat.lt_succ_self _)
  refine ⟨by rw [upd_ne ne, upd_same], Nat.zero_le _, ne, e2, fun _ => none, (Heap.Ns1.of_empty e3).at fun o q => Heap.get?_push_of_some _ q, fun _ => True.intro, fun y hy => absurd rfl hy⟩

/-- e.f where nothing but the object is asked: through attributeBase (super) and the last hold -/
theorem attr_of {prog : Program} {w : World} {env : Env} {e : Expr} {f : Str} {pos : Pos} {s : Shared} {Q : Value → Shared → Prop} (hb : attributeBase e f env (eval e env) = eval e env)
    (h : wpAny (model prog w) A (eval e env) (fun o s₁ => wpAny (model prog w) A (getAttr o f true) Q E s₁) E s) : wpAny (model prog w) A (eval (.Attribute e f pos) env) Q E s :=
  Attribute_any_ h (by rw [arm_eval_Attribute, hb])
end

/-! ### readings and rules -/
/-- e.f, an attribute of the instance -/
def tFld (K : PySem.W.Frag) (ta : TE) (f : Str) : TE := fun σ H Q => ta σ H fun x H1 => ∃ a C dx fs v, x = .ref a ∧ H1 a = some (.ins C dx fs) ∧ Cls K C ∧ NoAttr K C f ∧ fs.lookup f = some v ∧ Q v H1
/-- e.f, a constant of the class -/
def tCon (K : PySem.W.Frag) (ta : TE) (f : Str) : TE := fun σ H Q => ta σ H fun x H1 => ∃ a C dx fs v u, x = .ref a ∧ H1 a = some (.ins C dx fs) ∧ Cls K C ∧ Con K C f v u ∧ fs.lookup f = none ∧ Q v H1
/-- e.f = value -/
def sFld (K : PySem.W.Frag) (ta tv : TE) (f : Str) : TS := fun D σ H => tv σ H fun y H1 => ta σ H1 fun x H2 => ∃ a C dx fs, x = .ref a ∧ H2 a = some (.ins C dx fs) ∧ Cls K C ∧ NoAttr K C f ∧ fs.length < 1000 ∧
  D.nx σ (upd H2 a (.ins C dx (putF f y fs)))
/-- an augmented operator on two values -/
def InOp (X : Cx) (op : Operator) (rd : V → V → Hp → VK → Prop) : Prop :=
  ∀ (pins : List (Addr × Obj)) (s : Shared) (σ : St) (H : Hp) (x y : V) (u v : Value) (Q : VK), Inv X pins σ H s → RelV x u → RelV y v → rd x y H Q → wpAny (model X.prog X.w) X.A (inplaceOp op u v) (EP X pins σ Q) X.xe s
/-- e.f op= value -/
def sFldAug (K : PySem.W.Frag) (ta tv : TE) (rd : V → V → Hp → VK → Prop) (f : Str) : TS := fun D σ H => ta σ H fun x H1 => ∃ a C dx fs v, x = .ref a ∧ H1 a = some (.ins C dx fs) ∧ Cls K C ∧ NoAttr K C f ∧ fs.lookup f = some v ∧
  tv σ H1 fun y H2 => rd v y H2 fun z H3 => ∃ dx' fs', H3 a = some (.ins C dx' fs') ∧ fs'.length < 1000 ∧ D.nx σ (upd H3 a (.ins C dx' (putF f z fs')))

section
variable {X : Cx} {o e value : Expr} {f : Str} {pos pos' tpos : Pos} {ta tv : TE}
theorem pe_fld (he : PE X e ta) (hb : attributeBase e f X.env (eval e X.env) = eval e X.env) : PE X (.Attribute e f pos) (tFld X.K ta f) := by
  intro pins s σ H Q I h
  refine attr_of hb (thn (he pins s σ H _ I h) fun u s1 ⟨x, H1, I1, rx, a, C, dx, fs, v, ex, ea, c, n, l, q⟩ => ?_)
  subst ex
  obtain rfl : u = Value.ref a := rx
  exact getattr_ok I1 ea c n l fun u' s2 I2 ru => ⟨v, H1, I2, ru, q⟩
theorem ps_fld (ha : PE X o ta) (hv : PE X value tv) (hs : swapsWith value (some (.Attribute o f pos')) pos.line X.env = pure false) : PS X (.Assign [.Attribute o f pos'] value pos) (sFld X.K ta tv f) := by
  intro pins s σ H D I h
  refine plainObj_wpAny_Assign_Attribute (thn (hv pins s σ H _ I h) fun u s1 ⟨y, H1, I1, ry, q⟩ => thn (ha pins s1 σ H1 _ I1 q) fun ov s2 ⟨x, H2, I2, rx, a, C, dx, fs, ex, ea, c, n, l, q2⟩ => ?_) hs
  subst ex
  obtain rfl : ov = Value.ref a := rx
  exact setattr_ok I2 ea c n l ry fun s3 I3 => ⟨σ, _, I3, q2⟩
def rAdd : V → V → Hp → VK → Prop := fun x y H Q => ∃ i j, x = .int i ∧ y = .int j ∧ Q (.int (i + j)) H
def rSub : V → V → Hp → VK → Prop := fun x y H Q => ∃ i j, x = .int i ∧ y = .int j ∧ Q (.int (i - j)) H
end

/-! ### isinstance -/
section
variable {X : Cx} {pins : List (Addr × Obj)} {σ : St} {H : Hp} {s : Shared} {A : Around} {E : Value → Shared → Prop} {Q : Value → Shared → Prop} {c : Value} {b : Bool}
/-- the type of a value, as the fragment's deciders take it; for an instance its class -/
inductive TyOf (K : PySem.W.Frag) (H : Hp) : V → Value → Prop where
  | non : TyOf K H .non (.type "NoneType")
  | bl (x : Bool) : TyOf K H (.bl x) (.type "bool")
  | int (i : Int) : TyOf K H (.int i) (.type "int")
  | str (x : Str) : TyOf K H (.str x) (.type "str")
  | flt (x : UInt64) : TyOf K H (.flt x) (.type "float")
  | lst {a : Addr} {xs : List V} (e : H a = some (.lst xs)) : TyOf K H (.ref a) (.type "list")
  | frz {a : Addr} {o : Obj} {xs : List V} (e : H a = some (.frz o (.lst xs))) : TyOf K H (.ref a) (.type "list")
  | tup {a : Addr} {xs : List V} (e : H a = some (.tup xs)) : TyOf K H (.ref a) (.type "tuple")
  | dK {a : Addr} {kvs : List (Key × V)} (e : H a = some (.dK kvs)) : TyOf K H (.ref a) (.type "dict")
  | dT {a : Addr} {kvs : List (List Key × V)} (e : H a = some (.dT kvs)) : TyOf K H (.ref a) (.type "dict")
  | ins {a C dx : Addr} {fs : List (Str × V)} (e : H a = some (.ins C dx fs)) (cl : Cls K C) (ha : PySem.W.findIn K (.ref C) "__class__" = some (some (.builtin "object.__class__")))
      (hn : PySem.W.specialIn K (.builtin "object.__class__") "__get__" = some (some (.builtin "getset_descriptor.__get__"))) (htk : PySem.W.takesIn K (.builtin "object.__class__") = some true)
      (hm : PySem.W.mroIn K C (.type "object") = some true) : TyOf K H (.ref a) (.ref C)
/-- isinstance(x, c) for one class c, a built-in or an own one: kitOne's answer -/
theorem isinst_ok {x : V} {u t : Value} (I : Inv X pins σ H s) (rx : RelV x u) (ty : TyOf X.K H x t) (e : PySem.W.kitOne X.K t c = some b) (h : ∀ tk, Q (.bool b) { s with toks := tk }) :
    wpAny (model X.prog X.w) A (call (.builtin "isinstance") [u, c]) Q E s := by
  cases ty with
  | non => cases (show u = Value.none from rx); exact PySem.W.kia_one PySem.W.kitx_none I.kIn True.intro e (fun z => nomatch z) h
  | bl y => cases (show u = Value.bool y from rx); exact PySem.W.kia_one PySem.W.kitx_bool I.kIn True.intro e (fun z => nomatch z) h
  | int i => obtain ⟨t, q⟩ := (show ∃ t, u = Value.int i t from rx); cases q; exact PySem.W.kia_one PySem.W.kitx_int I.kIn True.intro e (fun z => nomatch z) h
  | str y => obtain ⟨t, q⟩ := (show ∃ t, u = Value.str y t from rx); cases q; exact PySem.W.kia_one PySem.W.kitx_str I.kIn True.intro e (fun z => nomatch z) h
  | flt y => obtain ⟨t, q⟩ := (show ∃ t, u = Value.float y t from rx); cases q; exact PySem.W.kia_one PySem.W.kitx_float I.kIn True.intro e (fun z => nomatch z) h
  | @lst a xs ea =>
    cases (show u = Value.ref a from rx)
    obtain ⟨_, _, n, _, h1⟩ := (show ObjOk X.prog X.w H s.heap a (.lst xs) from I.hok a _ ea)
    exact PySem.W.kia_one PySem.W.kitx_list I.kIn ⟨_, h1, rfl⟩ e (fun z => nomatch z) h
  | @frz a ob xs ea =>
    cases (show u = Value.ref a from rx)
    obtain ⟨_, _, _, n, _, h1⟩ := (show ObjOk X.prog X.w H s.heap a (.frz ob (.lst xs)) from I.hok a _ ea)
    exact PySem.W.kia_one PySem.W.kitx_list I.kIn ⟨_, h1, rfl⟩ e (fun z => nomatch z) h
  | @tup a xs ea =>
    cases (show u = Value.ref a from rx)
    obtain ⟨_, _, _, p⟩ := (show ObjOk X.prog X.w H s.heap a (.tup xs) from I.hok a _ ea)
    obtain ⟨o, h1, h2, _⟩ := p
    exact PySem.W.kia_one PySem.W.kitx_tuple I.kIn ⟨o, h1, h2⟩ e (fun z => nomatch z) h
  | @dK a kvs ea =>
    cases (show u = Value.ref a from rx)
    obtain ⟨_, _, vs, _, p⟩ := (show ObjOk X.prog X.w H s.heap a (.dK kvs) from I.hok a _ ea)
    obtain ⟨o, es, ep, h1, h2, _⟩ := p
    exact PySem.W.kia_one PySem.W.kitx_dict I.kIn ⟨o, h1, h2.1⟩ e (fun z => nomatch z) h
  | @dT a kvs ea =>
    cases (show u = Value.ref a from rx)
    obtain ⟨_, _, xs, _, o, es, ep, h1, h2, _⟩ := (show ObjOk X.prog X.w H s.heap a (.dT kvs) from I.hok a _ ea)
    exact PySem.W.kia_one PySem.W.kitx_dict I.kIn ⟨o, h1, h2.1⟩ e (fun z => nomatch z) h
  | @ins a C dx fs ea cl ha hn htk hm =>
    cases (show u = Value.ref a from rx)
    obtain ⟨mA, O, _⟩ := ins_get I.hok ea
    obtain ⟨od, J, _⟩ := O.look
    exact PySem.W.kia_one (PySem.W.kitx_own (cl.get _) cl.hd ha hn htk hm) I.kIn J e (fun z => nomatch z) h
end
end L2

namespace L2
open PySem PySem.Spec PyProof.Rows

/-! ### room -/
structure Room (k : Nat) (A : Around) : Prop where
  hd : A.handled = none
  dp : A.depth + 3 * k + 5 < recursionLimit
  un : A.units + 16 * k + 200 < cLine
theorem Room.mono {j k : Nat} {A : Around} (r : Room k A) (h : j ≤ k) : Room j A := ⟨r.hd, by have := r.dp; omega, by have := r.un; omega⟩
theorem Room.deeper {k : Nat} {A : Around} (r : Room (k + 1) A) (env : Env) : Room k (A.deeper env) :=
  ⟨r.hd, by have := r.dp; show A.depth + 1 + 3 * k + 5 < _; omega, by have := r.un; show A.units + 3 + 16 * k + 200 < _; omega⟩
theorem Room.in1 {k : Nat} {A : Around} (r : Room (k + 1) A) : Room k A.in1 :=
  ⟨r.hd, by have := r.dp; show A.depth + 3 * k + 5 < _; omega, by have := r.un; show A.units + 1 + 16 * k + 200 < _; omega⟩
theorem make_depth {A : Around} {C : Addr} {us : List Value} {kw : List (Str × Value)} : (A.under (.builtin "type.__call__" ⟨.ref C :: us, kw⟩)).depth = A.depth + 1 := by
  first | rfl | simp [Around.under, Code.weight, Code.isCreation, Code.isGuard, Code.isCaller, Code.frames, Code.isFrame, guardIds]
theorem make_units {A : Around} {C : Addr} {us : List Value} {kw : List (Str × Value)} : (A.under (.builtin "type.__call__" ⟨.ref C :: us, kw⟩)).units = A.units + 1 := by
  first | rfl | simp [Around.under, Code.cUnits, Code.frames, Code.isFrame]
theorem Room.make {k : Nat} {A : Around} (r : Room (k + 1) A) (C : Addr) (us : List Value) (kw : List (Str × Value)) : Room k (A.under (.builtin "type.__call__" ⟨.ref C :: us, kw⟩)) :=
  ⟨r.hd, by have := r.dp; rw [make_depth]; omega, by have := r.un; rw [make_units]; omega⟩
theorem Room.depth {k : Nat} {A : Around} (r : Room k A) : A.depth < recursionLimit := by have := r.dp; omega
theorem Room.units {k : Nat} {A : Around} (r : Room k A) : A.units + 64 < cLine := by have := r.un; omega
/-! ### argument lists and displays -/
def tNil : TA := fun _ H Q => Q [] H
def tCons (ta : TE) (tr : TA) : TA := fun σ H Q => ta σ H fun x H1 => tr σ H1 fun xs H2 => Q (x :: xs) H2
section
variable {X : Cx} {e : Expr} {es : List Expr} {te : TE} {t : TA} {pos : Pos}
theorem pa_nil : PA X [] tNil := fun _ _ _ _ H Q I h => Calls.spliced_nil ⟨[], H, I, .nil, h⟩
theorem pa_cons (ha : PE X e te) (hr : PA X es t) (hs : starEach (e :: es) X.env = (false, eval e X.env) :: starEach es X.env := by rfl) : PA X (e :: es) (tCons te t) := by
  intro pos pins s σ H Q I h
  rw [hs]
  show wpAny _ _ (spliced ((false, eval e X.env) :: backTo pos (starEach es X.env))) _ _ s
  refine Calls.spliced_cons (thn (ha pins s σ H _ I h) fun u s1 ⟨x, H1, I1, r1, q1⟩ => ?_)
  exact thn (hr pos pins s1 σ H1 _ I1 q1) fun us s2 ⟨xs, H2, I2, r2, q2⟩ => ⟨x :: xs, H2, I2, .cons r1 r2, q2⟩

/-- a tuple, a list of written items -/
def tTup (t : TA) : TE := fun σ H Q => t σ H fun xs H1 => xs.length ≤ sizeLine ∧ ∀ p, H1 p = none → Q (.ref p) (upd H1 p (.tup xs))
def tLst (t : TA) : TE := fun σ H Q => t σ H fun xs H1 => xs.length ≤ sizeLine ∧ ∀ p, H1 p = none → Q (.ref p) (upd H1 p (.lst xs))
end

/-! ### what a def promises -/
/-- a def's promise: the bound arguments in the parameters' order, the heap, the wanted end, the wanted exception -/
abbrev Sp := List V → Hp → VK → XK → Prop
/-- how an exception lies behind a call (file 08 gives it): the callers' frames, abstract heap and state ahead of the call, the wish, the exception, the state -/
abbrev CXT := List Env → Hp → Shared → XK → Value → Shared → Prop

/-- the state at a call -/
structure Env0 (P : Program) (w : World) (K : PySem.W.Frag) (mg : Str → Option Value) (base : Heap) (A : Around) (outer : List Env) (s : Shared) (H : Hp) : Prop where
  frames : A.frames = some outer
  mod : Mod K mg base
  bs : ∀ b o, base.get? b = some o → s.heap.get? b = some o ∧ H b = none
  bsz : base.objs.size ≤ s.heap.objs.size
  funs : s.heap.FunFrames base outer
  frf : ∀ b ∈ frs outer, H b = none
  hok : HOk P w H s.heap
  bare : AllBare s.gens
/-- a call's end -/
def CE (outer : List Env) (P : Program) (w : World) (H : Hp) (s : Shared) (Q : VK) (u : Value) (s' : Shared) : Prop :=
  ∃ v H', s'.os = s.os ∧ AllBare s'.gens ∧ Un (frs outer) [] H H' s.heap s'.heap ∧ HOk P w H' s'.heap ∧ RelV v u ∧ Q v H'
def CR (CX : CXT) (outer : List Env) (P : Program) (w : World) (H : Hp) (s : Shared) (Q : VK) (E : XK) (r : Result) (s' : Shared) : Prop :=
  match r with
  | .ok (.ret u) => CE outer P w H s Q u s'
  | .ok _ => False
  | .error e => CX outer H s E e s'
structure FnOk (P : Program) (w : World) (K : PySem.W.Frag) (mg : Str → Option Value) (base : Heap) (CX : CXT) (k : Nat) (f : Addr) (fd : FuncData) (ps : List Str) (sp : Sp) : Prop where
  len : ∀ vs H Q E, sp vs H Q E → vs.length = ps.length
  run : ∀ (A : Around) (outer : List Env) (s : Shared) (H : Hp) (args : Args) (us : List Value) (vs : List V) (Q : VK) (E : XK), Room k A → Env0 P w K mg base A outer s H → BindsTo s fd args (ps.zip us) → Vals vs us → sp vs H Q E →
    codeAny (model P w) A (.call (.ref f) args) (CR CX outer P w H s Q E) s
theorem FnOk.mono {P : Program} {w : World} {K : PySem.W.Frag} {mg : Str → Option Value} {base : Heap} {CX : CXT} {j k : Nat} {f : Addr} {fd : FuncData} {ps : List Str} {sp : Sp} (F : FnOk P w K mg base CX j f fd ps sp) (h : j ≤ k) :
    FnOk P w K mg base CX k f fd ps sp := ⟨F.len, fun A outer s H args us vs Q E hr => F.run A outer s H args us vs Q E (hr.mono h)⟩
/-- a weaker promise -/
theorem FnOk.imp {P : Program} {w : World} {K : PySem.W.Frag} {mg : Str → Option Value} {base : Heap} {CX : CXT} {k : Nat} {f : Addr} {fd : FuncData} {ps : List Str} {sp sp' : Sp} (F : FnOk P w K mg base CX k f fd ps sp)
    (h : ∀ vs H Q E, sp' vs H Q E → sp vs H Q E) : FnOk P w K mg base CX k f fd ps sp' :=
  ⟨fun vs H Q E q => F.len vs H Q E (h _ _ _ _ q), fun A outer s H args us vs Q E hr he hb hv hs => F.run A outer s H args us vs Q E hr he hb hv (h _ _ _ _ hs)⟩

theorem Env0.make {P : Program} {w : World} {K : PySem.W.Frag} {mg : Str → Option Value} {base : Heap} {A : Around} {outer : List Env} {s : Shared} {H : Hp} (e : Env0 P w K mg base A outer s H) (C : Addr) (us : List Value) (kw : List (Str × Value)) :
    Env0 P w K mg base (A.under (.builtin "type.__call__" ⟨.ref C :: us, kw⟩)) outer s H := ⟨by first | exact e.frames | (simpa [Around.under, Code.envs, Code.isFrame, pushEnvs] using e.frames), e.mod, e.bs, e.bsz, e.funs, e.frf, e.hok, e.bare⟩
theorem Env0.in1 {P : Program} {w : World} {K : PySem.W.Frag} {mg : Str → Option Value} {base : Heap} {A : Around} {outer : List Env} {s : Shared} {H : Hp} (e : Env0 P w K mg base A outer s H) :
    Env0 P w K mg base A.in1 outer s H := ⟨e.frames, e.mod, e.bs, e.bsz, e.funs, e.frf, e.hok, e.bare⟩

section
variable {X : Cx} {pins : List (Addr × Obj)} {σ : St} {H : Hp} {s s' : Shared}
/-- from a body: what a callee wants -/
theorem Inv.env0 (I : Inv X pins σ H s) : Env0 X.prog X.w X.K X.mg X.base X.A X.stack s H :=
  ⟨I.ok.frames, I.ok.mod, I.bs, Nat.le_trans I.ok.bsz I.sz, I.stack, I.stkFree, I.hok, I.bare⟩
/-- behind a call -/
theorem Inv.after {Q : VK} {u : Value} (I : Inv X pins σ H s) (h : CE X.stack X.prog X.w H s Q u s') : EP X pins σ Q u s' := by
  obtain ⟨v, H', os, bare, un, hok, r, q⟩ := h
  obtain ⟨hh, g, d, t, os'⟩ := s'
  obtain rfl : os' = s.os := os
  exact ⟨v, H', I.call (h' := hh) (g' := g) (d' := d) (t' := t) (ch := []) un hok bare (fun b z => absurd z (by simp)), r, q⟩
end

/-! ### calls -/
/-- f(..): the written arguments, then the defaults dvs; E: what is wanted of an exception -/
def tCall (sp : Sp) (dvs : List V) (E : XK) (t : TA) : TE := fun σ H Q => t σ H fun vs H1 => sp (vs ++ dvs) H1 Q E
/-- o.m(..) of an instance of the class at C -/
def tMeth (C : Addr) (m : Str) (sp : Sp) (dvs : List V) (E : XK) (ta : TE) (t : TA) : TE := fun σ H Q => ta σ H fun x H1 => ∃ a dx fs, x = .ref a ∧ H1 a = some (.ins C dx fs) ∧ fs.lookup m = none ∧
  t σ H1 fun vs H2 => sp (x :: (vs ++ dvs)) H2 Q E
/-- C(..): a new instance and its dict, then __init__ -/
def tMake (C : Addr) (sp : Sp) (dvs : List V) (E : XK) (t : TA) : TE := fun σ H Q => t σ H fun vs H1 => ∀ x dx, H1 x = none → H1 dx = none → dx ≠ x →
  sp (.ref x :: (vs ++ dvs)) (upd (upd H1 dx (.own x)) x (.ins C dx [])) (fun v H2 => v = .non ∧ Q (.ref x) H2) E

/-- how the parameters are bound: us the positional arguments, kw the keywords' values by name, ds the defaults that fill up -/
def Binds (K : PySem.W.Frag) (fd : FuncData) (ps : List Str) (ds : List Value) : Prop :=
  ∀ (s : Shared) (us : List Value), K.In s.heap → (us ++ ds).length = ps.length → BindsTo s fd ⟨us, []⟩ (ps.zip (us ++ ds))
/-- every parameter is given -/
theorem Binds.all {K : PySem.W.Frag} {fd : FuncData} {ps : List Str} (h : ∀ us : List Value, us.length = ps.length → bindArgs fd ⟨us, []⟩ = pure (ps.zip us)) : Binds K fd ps [] := fun s us _ hl => by
  rw [List.append_nil] at hl ⊢
  exact .of_eq (h us hl)

/-- an exception of a callee reaches what this body wants of exceptions -/
def Passes (CX : CXT) (X : Cx) (E : XK) : Prop := ∀ (pins : List (Addr × Obj)) (σ : St) (H : Hp) (s : Shared) (e : Value) (s' : Shared), Inv X pins σ H s → CX X.stack H s E e s' → X.xe e s'

section
variable {X : Cx} {CX : CXT} {k : Nat} {f C : Addr} {fd : FuncData} {ps : List Str} {sp : Sp} {dvs : List V} {ds : List Value} {E : XK} {x m : Str} {p pos apos : Pos} {e o : Expr} {es : List Expr} {ta : TE} {t : TA}

/-- the callee runs -/
theorem run_fn {pins : List (Addr × Obj)} {σ : St} {H : Hp} {s : Shared} {Q : VK} {us : List Value} {vs : List V} (F : FnOk X.prog X.w X.K X.mg X.base CX k f fd ps sp) (hr : Room k X.A) (hb : Binds X.K fd ps ds) (hd : Vals dvs ds) (hx : Passes CX X E)
    (I : Inv X pins σ H s) (r : Vals vs us) (h : sp (vs ++ dvs) H Q E) : wpAny (model X.prog X.w) X.A (call (.ref f) us) (EP X pins σ Q) X.xe s := by
  have r2 : Vals (vs ++ dvs) (us ++ ds) := r.append hd
  have hl : (us ++ ds).length = ps.length := by rw [← r2.length]; exact F.len _ _ _ _ h
  refine wpAny_call (codeAny_mono (F.run X.A X.stack s H ⟨us, []⟩ (us ++ ds) (vs ++ dvs) Q E hr I.env0 (hb s us I.kIn hl) r2 h) fun r s' hq => ?_)
  cases r with
  | error e => exact hx pins σ H s e s' I hq
  | ok fl =>
    cases fl with
    | ret u => exact I.after hq
    | next => exact False.elim hq
    | brk => exact False.elim hq
    | cont => exact False.elim hq

theorem pe_call (F : FnOk X.prog X.w X.K X.mg X.base CX k f fd ps sp) (hr : Room k X.A) (hg : Gl X x) (hm : X.mg x = some (.ref f)) (hk : PySem.W.keepIn X.K (.ref f) = true) (hb : Binds X.K fd ps ds) (hd : Vals dvs ds) (hx : Passes CX X E)
    (ha : PA X (e :: es) t) (hdb : (x == ("__debug__" : Str)) = false := by decide) (he : starEach (e :: es) X.env = (false, eval e X.env) :: starEach es X.env := by rfl) (hpl : (backTo pos (starEach es X.env)).any (·.1) = false := by rfl) :
    PE X (.Call (.Name x p) (e :: es) [] pos) (tCall sp dvs E t) := by
  intro pins s σ H Q I h
  refine wpAny_Call_Name_kw (ld_glob I hg hm ?_ hdb)
  refine PySem.W.callWith_K (h₀ := X.base) I.ok.mod.kin hk (thn (ha pos pins s σ H _ I h) fun us s1 ⟨vs, H1, I1, r, q⟩ => ⟨I1.kIn, ?_⟩) he hpl
  exact run_fn F hr hb hd hx I1 r q
/-- o.m(e, ..) -/
theorem pe_meth {pl : Sem Bool} (he : PE X o ta) (c : Cls X.K C) (hm : Meth X.K C m f) (F : FnOk X.prog X.w X.K X.mg X.base CX k f fd ps sp) (hr : Room k X.A) (hb : Binds X.K fd ps ds) (hd : Vals dvs ds) (hx : Passes CX X E) (ha : PA X (e :: es) t)
    (hst : starEach (e :: es) X.env = (false, eval e X.env) :: starEach es X.env := by rfl) (hpl : (backTo pos (starEach es X.env)).any (·.1) = false := by rfl)
    (ht : eval (.Call (.Attribute o m apos) (e :: es) [] pos) X.env = (do
      let ov ← eval o X.env
      standAt apos.atName
      let (f, first) ← holding [ov] (getMethod ov m pl)
      callWith pos f first (backTo pos (starEach (e :: es) X.env)) (backToKw pos (keywordEach [] X.env))) := by rfl) :
    PE X (.Call (.Attribute o m apos) (e :: es) [] pos) (tMeth C m sp dvs E ta t) := by
  intro pins s σ H Q I h
  refine PySem.W.methodCall_KW (pl := pl) (thn (he pins s σ H _ I h) fun u s1 ⟨x, H1, I1, rx, a, dx, fs, ex, ea, l, q⟩ => ?_) ht
  subst ex
  obtain rfl : u = Value.ref a := rx
  refine getmeth_ok I1 ea c hm l ?_
  refine PySem.W.callWith_K (first := [.ref a]) (h₀ := X.base) I.ok.mod.kin hm.kp (thn (ha pos pins s1 σ H1 _ I1 q) fun us s2 ⟨vs, H2, I2, r, q2⟩ => ⟨I2.kIn, ?_⟩) hst hpl
  exact run_fn (us := .ref a :: us) (vs := .ref a :: vs) F hr hb hd hx I2 (.cons rfl r) q2
/-- o.m() -/
theorem pe_meth0 {pl : Sem Bool} (he : PE X o ta) (c : Cls X.K C) (hm : Meth X.K C m f) (F : FnOk X.prog X.w X.K X.mg X.base CX k f fd ps sp) (hr : Room k X.A) (hb : Binds X.K fd ps ds) (hd : Vals dvs ds) (hx : Passes CX X E)
    (ht : eval (.Call (.Attribute o m apos) [] [] pos) X.env = (do
      let ov ← eval o X.env
      standAt apos.atName
      let (f, first) ← holding [ov] (getMethod ov m pl)
      callWith pos f first (backTo pos (starEach [] X.env)) (backToKw pos (keywordEach [] X.env))) := by rfl) :
    PE X (.Call (.Attribute o m apos) [] [] pos) (tMeth C m sp dvs E ta tNil) := by
  intro pins s σ H Q I h
  refine PySem.W.methodCall_KW (pl := pl) (thn (he pins s σ H _ I h) fun u s1 ⟨x, H1, I1, rx, a, dx, fs, ex, ea, l, q⟩ => ?_) ht
  subst ex
  obtain rfl : u = Value.ref a := rx
  refine getmeth_ok I1 ea c hm l ?_
  exact PySem.W.callWith_K0 (first := [.ref a]) I1.kIn hm.kp (run_fn (us := [.ref a]) (vs := [.ref a]) F hr hb hd hx I1 (.cons rfl .nil) q)

/-- what a class must have to be made -/
structure Mk (K : PySem.W.Frag) (C f : Addr) : Prop where
  makes : PySem.W.makesIn K C = true
  init : PySem.W.findIn K (.ref C) "__init__" = some (some (.ref f))
  fn : PySem.W.isFn K (.ref f) = true
  kp : PySem.W.keepIn K (.ref C) = true

theorem run_make {pins : List (Addr × Obj)} {σ : St} {H : Hp} {s : Shared} {Q : VK} {us : List Value} {vs : List V} (M : Mk X.K C f) (F : FnOk X.prog X.w X.K X.mg X.base CX k f fd ps sp) (hr : Room (k + 1) X.A) (hb : Binds X.K fd ps ds) (hd : Vals dvs ds)
    (hx : Passes CX X E) (I : Inv X pins σ H s) (r : Vals vs us)
    (h : ∀ x dx, H x = none → H dx = none → dx ≠ x → sp (.ref x :: (vs ++ dvs)) (upd (upd H dx (.own x)) x (.ins C dx [])) (fun v H2 => v = .non ∧ Q (.ref x) H2) E) :
    wpAny (model X.prog X.w) X.A (call (.ref C) us) (EP X pins σ Q) X.xe s := by
  have hq := h (s.heap.objs.size + 1) s.heap.objs.size (I.hok.fresh (Nat.le_succ _)) (I.hok.fresh (Nat.le_refl _)) (Nat.ne_of_lt (Nat.lt_succ_self _))
  have I2 := Inv.made (C := C) I
  have r2 : Vals (V.ref (s.heap.objs.size + 1) :: (vs ++ dvs)) (Value.ref (s.heap.objs.size + 1) :: (us ++ ds)) := .cons rfl (r.append hd)
  have hl : (Value.ref (s.heap.objs.size + 1) :: us ++ ds).length = ps.length := by
    have e := r2.length
    rw [F.len _ _ _ _ hq] at e
    exact e.symm
  refine wpAny_call (make_map (f := f) I.kIn M.makes M.init (beq_iff_eq.mp M.fn) (codeAny_mono (F.run _ X.stack _ _ ⟨Value.ref (s.heap.objs.size + 1) :: us, []⟩ (Value.ref (s.heap.objs.size + 1) :: (us ++ ds)) _ _ E (hr.make C us [])
    (I2.env0.make C us []) (hb _ (Value.ref (s.heap.objs.size + 1) :: us) I2.kIn hl) r2 hq) fun r s' hq' => ?_))
  cases r with
  | error e => exact hx pins σ _ _ e s' I2 hq'
  | ok fl =>
    cases fl with
    | ret u =>
      obtain ⟨v, H', I3, rv, ev, q3⟩ := I2.after hq'
      subst ev
      exact ⟨rv, ⟨V.ref (s.heap.objs.size + 1), H', I3, rfl, q3⟩⟩
    | next => exact False.elim hq'
    | brk => exact False.elim hq'
    | cont => exact False.elim hq'
theorem pe_make (M : Mk X.K C f) (F : FnOk X.prog X.w X.K X.mg X.base CX k f fd ps sp) (hr : Room (k + 1) X.A) (hg : Gl X x) (hm : X.mg x = some (.ref C)) (hb : Binds X.K fd ps ds) (hd : Vals dvs ds) (hx : Passes CX X E)
    (ha : PA X (e :: es) t) (hdb : (x == ("__debug__" : Str)) = false := by decide) (he : starEach (e :: es) X.env = (false, eval e X.env) :: starEach es X.env := by rfl) (hpl : (backTo pos (starEach es X.env)).any (·.1) = false := by rfl) :
    PE X (.Call (.Name x p) (e :: es) [] pos) (tMake C sp dvs E t) := by
  intro pins s σ H Q I h
  refine wpAny_Call_Name_kw (ld_glob I hg hm ?_ hdb)
  refine PySem.W.callWith_K (h₀ := X.base) I.ok.mod.kin M.kp (thn (ha pos pins s σ H _ I h) fun us s1 ⟨vs, H1, I1, r, q⟩ => ⟨I1.kIn, ?_⟩) he hpl
  exact run_make M F hr hb hd hx I1 r q
theorem pe_make0 (M : Mk X.K C f) (F : FnOk X.prog X.w X.K X.mg X.base CX k f fd ps sp) (hr : Room (k + 1) X.A) (hg : Gl X x) (hm : X.mg x = some (.ref C)) (hb : Binds X.K fd ps ds) (hd : Vals dvs ds) (hx : Passes CX X E)
    (hdb : (x == ("__debug__" : Str)) = false := by decide) : PE X (.Call (.Name x p) [] [] pos) (tMake C sp dvs E tNil) := by
  intro pins s σ H Q I h
  refine wpAny_Call_Name_kw (ld_glob I hg hm ?_ hdb)
  exact PySem.W.callWith_K0 I.kIn M.kp (run_make (us := []) M F hr hb hd hx I .nil h)
end

/-! ### keywords -/
/-- the values of the keywords, from the left -/
def PK (X : Cx) (kws : List Keyword) (t : TA) : Prop :=
  ∀ (pos : Pos) (pins : List (Addr × Obj)) (s : Shared) (σ : St) (H : Hp) (Q : List V → Hp → Prop), Inv X pins σ H s → t σ H Q → wpAny (model X.prog X.w) X.A (evalAll ((backToKw pos (keywordEach kws X.env)).map (·.2))) (AP X pins σ Q) X.xe s
section
variable {X : Cx} {CX : CXT} {k : Nat} {f C : Addr} {fd : FuncData} {ps ks : List Str} {sp : Sp} {E : XK} {x m : Str} {p pos apos kpos : Pos} {e o : Expr} {es : List Expr} {kws : List Keyword} {te ta : TE} {t tk : TA} {nm : Option Str}
/-- how a call with keywords binds: g puts the positional values us and the keywords' values ws (names ks) in the parameters' order, defaults among them -/
structure KBinds (K : PySem.W.Frag) (fd : FuncData) (ps ks : List Str) (g : List Value → List Value → List Value) (gV : List V → List V → List V) : Prop where
  to : ∀ (s : Shared) (us ws : List Value), K.In s.heap → (g us ws).length = ps.length → BindsTo s fd ⟨us, ks.zip ws⟩ (ps.zip (g us ws))
  rel : ∀ {vs : List V} {us : List Value} {zs : List V} {ws : List Value}, Vals vs us → Vals zs ws → Vals (gV vs zs) (g us ws)
def tCallK (sp : Sp) (gV : List V → List V → List V) (E : XK) (t tk : TA) : TE := fun σ H Q => t σ H fun vs H1 => tk σ H1 fun zs H2 => sp (gV vs zs) H2 Q E
variable {g : List Value → List Value → List Value} {gV : List V → List V → List V}
end

/-! ### a def's body keeps its promise -/
/-- names: the parameters first -/
structure FnScope (N P : List Str) (sc : Scope) : Prop where
  kind : sc.kind = .function
  co : sc.isCoroutine = false
  gen : sc.isGenerator = false
  nd : N.Nodup
  pre : N.take P.length = P
  par : ∀ x ∈ P, sc.names.lookup x = some .local ∨ sc.names.lookup x = some .cell
  nofree : ∀ y ∈ sc.names, y.2 ≠ .free

theorem bindL_out {kindOf : Str → Option NameKind} {x : Str} : ∀ {binds : List (Str × Value)} {m : Str → Option Value}, (∀ v, (x, v) ∉ binds) → bindL kindOf binds m x = m x
  | [], _, _ => rfl
  | (n, v) :: r, m, h => by
    unfold bindL
    rw [bindL_out fun w hw => h w (List.mem_cons_of_mem _ hw)]
    split
    · have : x ≠ n := by rintro rfl; exact h v List.mem_cons_self
      simp [this]
    · rfl
theorem bindC_out {kindOf : Str → Option NameKind} {x : Str} : ∀ {binds : List (Str × Value)} {m : Str → Option Value}, (∀ v, (x, v) ∉ binds) → bindC kindOf binds m x = m x
  | [], _, _ => rfl
  | (n, v) :: r, m, h => by
    unfold bindC
    rw [bindC_out fun w hw => h w (List.mem_cons_of_mem _ hw)]
    split
    · rfl
    · have : x ≠ n := by rintro rfl; exact h v List.mem_cons_self
      simp [this]
theorem bindL_get {kindOf : Str → Option NameKind} {x : Str} {v : Value} : ∀ {P : List Str} {vs : List Value} {i : Nat} {m : Str → Option Value}, P.Nodup → P[i]? = some x → vs[i]? = some v → kindOf x = some .local →
    bindL kindOf (P.zip vs) m x = some v
  | [], _, _, _, _, h, _, _ => by simp at h
  | _ :: _, [], _, _, _, _, h, _ => by simp at h
  | p :: P, w :: vs, 0, m, nd, h1, h2, hk => by
    simp at h1 h2; subst h1; subst h2
    show bindL kindOf ((p, w) :: P.zip vs) m p = _
    unfold bindL
    rw [bindL_out fun v hv => (List.nodup_cons.mp nd).1 (List.of_mem_zip hv).1, if_pos hk]
    simp
  | p :: P, w :: vs, i + 1, m, nd, h1, h2, hk => by
    show bindL kindOf ((p, w) :: P.zip vs) m x = _
    unfold bindL
    exact bindL_get (i := i) (List.nodup_cons.mp nd).2 (by simpa using h1) (by simpa using h2) hk
theorem bindC_get {kindOf : Str → Option NameKind} {x : Str} {v : Value} : ∀ {P : List Str} {vs : List Value} {i : Nat} {m : Str → Option Value}, P.Nodup → P[i]? = some x → vs[i]? = some v → kindOf x ≠ some .local →
    bindC kindOf (P.zip vs) m x = some v
  | [], _, _, _, _, h, _, _ => by simp at h
  | _ :: _, [], _, _, _, _, h, _ => by simp at h
  | p :: P, w :: vs, 0, m, nd, h1, h2, hk => by
    simp at h1 h2; subst h1; subst h2
    show bindC kindOf ((p, w) :: P.zip vs) m p = _
    unfold bindC
    rw [bindC_out fun v hv => (List.nodup_cons.mp nd).1 (List.of_mem_zip hv).1, if_neg hk]
    simp
  | p :: P, w :: vs, i + 1, m, nd, h1, h2, hk => by
    show bindC kindOf ((p, w) :: P.zip vs) m x = _
    unfold bindC
    exact bindC_get (i := i) (List.nodup_cons.mp nd).2 (by simpa using h1) (by simpa using h2) hk

/-- the names' values at the entry -/
def start (N : List Str) (vs : List V) : St := vs.map some ++ List.replicate (N.length - vs.length) none

/-- the context of a def's body, at its entry; an exception leaves the frame, then lies as CX says -/
def cxOf (CX : CXT) (P : Program) (w : World) (K : PySem.W.Frag) (mg : Str → Option Value) (base : Heap) (N : List Str) (qual : Str) (scope : Scope) (f : Addr) (cd : Value) (A : Around) (outer : List Env) (s : Shared) (H : Hp) (E : XK) : Cx where
  prog := P
  w := w
  K := K
  mg := mg
  base := base
  A := A.deeper (envOfC qual scope s.heap.objs.size f cd)
  N := N
  s₀ := s
  H₀ := H
  env := envOfC qual scope s.heap.objs.size f cd
  outer := outer
  stack := envOfC qual scope s.heap.objs.size f cd :: outer
  ex := []
  calm := true
  fn := fun _ => true
  pn := []
  xe := fun e s' => wpAny (model P w) (A.deeper (envOfC qual scope s.heap.objs.size f cd)) (leaving (envOfC qual scope s.heap.objs.size f cd) e) (fun _ s'' => CX outer H s E e s'') (fun e' s'' => CX outer H s E e' s'') s'

theorem cell_has {sc : Scope} {n : Nat} {x : Str} (h : sc.names.lookup x = some .cell) : ∃ c, (cellsFrom n sc.names []).lookup x = some c := by
  have q := PySem.W.cellsFrom_some sc.names n [] (.inl h)
  exact Option.isSome_iff_exists.mp q

theorem inv_start {CX : CXT} {P : Program} {w : World} {K : PySem.W.Frag} {mg : Str → Option Value} {base : Heap} {N ps : List Str} {qual : Str} {scope : Scope} {f : Addr} {cd : Value} {A : Around} {outer : List Env} {s s1 : Shared} {H : Hp} {E : XK} {us : List Value} {vs : List V}
    (S : FnScope N ps scope) (hd : A.handled = none) (e0 : Env0 P w K mg base A outer s H) (hl : vs.length = ps.length) (r : Vals vs us)
    (x : InCallC s s.heap.objs.size (bindL (envOfC qual scope s.heap.objs.size f cd).kindOf (ps.zip us) fun _ => none) (cellsFrom (s.heap.objs.size + 1) scope.names []) (bindC (envOfC qual scope s.heap.objs.size f cd).kindOf (ps.zip us) fun _ => none) s1) :
    Inv (cxOf CX P w K mg base N qual scope f cd A outer s H E) [] (start N vs) H s1 := by
  have hpl : ps.length ≤ N.length := by have := congrArg List.length S.pre; rw [List.length_take] at this; omega
  obtain ⟨h1, tk, rfl, hk⟩ := x.done
  have noA : ∀ b : Addr, b ∉ (cxOf CX P w K mg base N qual scope f cd A outer s H E).ex := fun b z => absurd (show b ∈ ([] : List Addr) from z) (by simp)
  refine ⟨⟨e0.mod, S.kind, rfl, rfl, Nat.le_refl _, fun y z c h1 h2 => ?_, fun y hy => ?_, fun y c _ h => ?_, fun _ => hd, Around.frames_deeper e0.frames, .inr ⟨rfl, rfl⟩, fun b z => absurd z (noA b), e0.bs, e0.bsz, fun b _ _ => noA b, fun b z => absurd z (noA b), e0.funs, e0.frf⟩,
    rfl, e0.bare, Un.kept hk, ⟨_, x.toInCall.ns, fun i y v h1 h2 h3 => ?_⟩, fun y c h => ⟨_, x.cell y c h⟩, e0.hok.fresh (Nat.le_refl _), fun y c h => ?_, fun p hp => absurd (show p ∈ ([] : List (Addr × Obj)) from hp) (by simp), e0.hok.kept hk, ?_⟩
  · exact name_of_addr x.apart (PySem.mem_of_lookup h1) (PySem.mem_of_lookup h2)
  · have hy : scope.names.lookup y = some .cell ∨ scope.names.lookup y = some .free := hy
    rcases hy with hy | hy
    · exact cell_has hy
    · exact absurd rfl (S.nofree _ (PySem.mem_of_lookup hy))
  · exact Nat.le_of_lt (x.above y c (PySem.mem_of_lookup h))
  · have hi : i < vs.length := by
      unfold start at h2
      by_cases hi : i < vs.length
      · exact hi
      · rw [List.getElem?_append_right (by simpa using hi)] at h2
        rw [List.getElem?_replicate] at h2
        split at h2 <;> cases h2
    have ha : vs[i]? = some v := by
      unfold start at h2
      rw [List.getElem?_append_left (by simpa using hi), List.getElem?_map] at h2
      cases e : vs[i]? with
      | none => rw [e] at h2; cases h2
      | some a => rw [e] at h2; cases h2; rfl
    obtain ⟨u, hu, rv⟩ := r.get ha
    have hp : ps[i]? = some y := by
      rw [← S.pre, List.getElem?_take_of_lt (by omega)]; exact h1
    have ndP : ps.Nodup := by rw [← S.pre]; exact S.nd.sublist (List.take_sublist _ _)
    refine ⟨u, rv, ?_⟩
    rcases S.par y (List.mem_of_getElem? hp) with k | k
    · exact .inl ⟨k, bindL_get ndP hp hu k⟩
    · obtain ⟨c, e⟩ := cell_has (n := s.heap.objs.size + 1) k
      refine .inr ⟨.inl k, c, e, ?_⟩
      have q := x.cell y c e
      rw [bindC_get ndP hp hu (by show scope.names.lookup y ≠ _; rw [k]; decide)] at q
      exact q
  · exact e0.hok.fresh (Nat.le_of_lt (x.above y c (PySem.mem_of_lookup h)))
  · unfold start
    show _ = N.length
    rw [List.length_append, List.length_map, List.length_replicate]
    omega

/-- THE RULE: a def (or a method) of the text, by its body. The body's reading t is chosen for each entry; it is run at the parameters' values -/
theorem fn_of {CX : CXT} {P : Program} {w : World} {K : PySem.W.Frag} {mg : Str → Option Value} {base : Heap} {k : Nat} {f : Addr} {name qual : Str} {params : Arguments} {body : List Stmt} {scope : Scope} {dV kV doc pm cdv ct oc : Value} {an od : Option Addr}
    {osl : Array (Option Value)} {N ps : List Str} {sp : Sp} (lk : K.lookup f = some ⟨oc, od, .func (PySem.W.fnOf name qual params body scope dV kV doc pm an cdv ct), osl⟩) (hcd : PySem.W.codeIn K cdv qual = true) (S : FnScope N ps scope)
    (len : ∀ vs H Q E, sp vs H Q E → vs.length = ps.length)
    (hbody : ∀ (A : Around) (outer : List Env) (s : Shared) (H : Hp) (vs : List V) (Q : VK) (E : XK), Room k (A.deeper (envOfC qual scope s.heap.objs.size f cdv)) → sp vs H Q E →
      ∃ t, PSs (cxOf CX P w K mg base N qual scope f cdv A outer s H E) body t ∧ t { nx := fun _ H' => Q .non H', rt := Q } (start N vs) H) :
    FnOk P w K mg base CX (k + 1) f (PySem.W.fnOf name qual params body scope dV kV doc pm an cdv ct) ps sp := by
  refine ⟨len, fun A outer s H args us vs Q E hr e0 hb r hsp => ?_⟩
  have hl := len _ _ _ _ hsp
  have KX : K.In s.heap := e0.mod.kin.keeps fun b o e => (e0.bs b o e).1
  have lim : s.heap.NoLimit := e0.mod.nolimit.keeps fun b o e => (e0.bs b o e).1
  have hkind : ∀ y ∈ ps.zip us, scope.names.lookup y.1 = some .local ∨ (scope.names.lookup y.1 = some .cell ∧ ((cellsFrom (s.heap.objs.size + 1) scope.names []).lookup y.1).isSome = true) := fun ⟨n, v⟩ hy => by
    rcases S.par n (List.of_mem_zip hy).1 with q | q
    · exact .inl q
    · exact .inr ⟨q, PySem.W.cellsFrom_some _ _ _ (.inl q)⟩
  refine codeAny_call_function hr.depth (KX _ _ lk) rfl S.co S.gen rfl (PySem.W.codeRec_of KX hcd) (hb _ _ _ _ ?_)
  refine wpAny_newFunctionEnv_cells S.kind hkind fun env he s1 x => ?_
  subst he
  refine ⟨lim.keeps x.toInCall.keep, codeAny_func ?_⟩
  obtain ⟨t, ht, hq⟩ := hbody A outer s H vs Q E (hr.deeper _) hsp
  have I : Inv (cxOf CX P w K mg base N qual scope f cdv A outer s H E) [] (start N vs) H s1 := inv_start S hr.hd e0 hl r x
  refine wpAny_mono (ht [] s1 (start N vs) H _ I hq) (fun fl s' hs => ?_) fun e s' hs => hs
  have fin : ∀ {σ' : St} {H' : Hp} {v : V} {u : Value}, Inv (cxOf CX P w K mg base N qual scope f cdv A outer s H E) [] σ' H' s' → RelV v u → Q v H' → CE outer P w H s Q u s' :=
    fun {σ' H' v u} J rv q => ⟨v, H', J.os, J.bare, J.base, J.hok, rv, q⟩
  cases fl with
  | ret u =>
    obtain ⟨v, σ', H', J, rv, q⟩ := hs
    exact fin J rv q
  | next =>
    obtain ⟨σ', H', J, q⟩ := hs
    exact fin (v := V.non) (u := Value.none) J rfl q
  | brk =>
    obtain ⟨_, _, _, q⟩ := hs
    exact False.elim q
  | cont =>
    obtain ⟨_, _, _, q⟩ := hs
    exact False.elim q
end L2

namespace L2
open PySem PySem.Spec PyProof.Rows
section
variable {X : Cx} {x : Str} {p pos : Pos} {e : Expr} {es : List Expr} {t : TA} {id T : String} {r : List V → Hp → VK → Prop}

def tCB (r : List V → Hp → VK → Prop) (t : TA) : TE := fun σ H Q => t σ H fun vs H1 => r vs H1 Q
/-- f(e, ..), f a built-in function -/
theorem pe_callB (hc : CallR X (.builtin id) r) (hg : Gl X x) (hm : X.mg x = none) (hv : bootBuiltins x = some (.builtin id)) (ha : PA X (e :: es) t) (hn : x ≠ "__name__" := by decide) (hdb : (x == ("__debug__" : Str)) = false := by decide)
    (he : starEach (e :: es) X.env = (false, eval e X.env) :: starEach es X.env := by rfl) (hpl : (backTo pos (starEach es X.env)).any (·.1) = false := by rfl) : PE X (.Call (.Name x p) (e :: es) [] pos) (tCB r t) := by
  intro pins s σ H Q I h
  refine wpAny_Call_Name_kw (ld_blt I hg hm hv ?_ hn hdb)
  exact PyProof.Rows.callWith_builtin1 (thn (ha pos pins s σ H _ I h) fun us s1 ⟨vs, H1, I1, r1, q1⟩ => hc pins s1 σ H1 vs us Q I1 r1 q1) he hpl
/-- T(e, ..), T a built-in type -/
theorem pe_callTy (hc : CallR X (.type T) r) (hg : Gl X x) (hm : X.mg x = none) (hv : bootBuiltins x = some (.type T)) (ha : PA X (e :: es) t) (hn : x ≠ "__name__" := by decide) (hdb : (x == ("__debug__" : Str)) = false := by decide)
    (he : starEach (e :: es) X.env = (false, eval e X.env) :: starEach es X.env := by rfl) (hpl : (backTo pos (starEach es X.env)).any (·.1) = false := by rfl) : PE X (.Call (.Name x p) (e :: es) [] pos) (tCB r t) := by
  intro pins s σ H Q I h
  refine wpAny_Call_Name_kw (ld_blt I hg hm hv ?_ hn hdb)
  exact PyProof.Rows.callWith_type1 (thn (ha pos pins s σ H _ I h) fun us s1 ⟨vs, H1, I1, r1, q1⟩ => hc pins s1 σ H1 vs us Q I1 r1 q1) he hpl
end
end L2

namespace HT
open PySem PyProof.Rows

/-- t < u of tuples of ints -/
def lexLt : List Int → List Int → Bool
  | [], [] => false
  | [], _ :: _ => true
  | _ :: _, [] => false
  | x :: xs, y :: ys => if x = y then lexLt xs ys else decide (x < y)
section
open PySem.SeqAt
open PySem.AutoSeq1 (wpAny_loadPart')
open PySem.MeetsSeq PySem.MeetsSeq2 PySem.MeetsSeq3

end

section
variable {prog : Program} {w : World} {A : Around} {E : Value → Shared → Prop} {s : Shared}

/-- t + u, t not empty -/
theorem cat_tup {t b : Addr} {vs ws : List Value} {Q : Value → Shared → Prop} (ht : IsTup s.heap t vs.toArray) (hb : IsTup s.heap b ws.toArray) (hv : vs ≠ [])
    (h1 : ws = [] → Q (.ref t) s) (h2 : ws ≠ [] → Q (.ref s.heap.objs.size) { s with heap := s.heap.push { cls := .type "tuple", data := .seq (vs ++ ws).toArray } })
    (hsz : vs.length + ws.length ≤ sizeLine) : wpAny (model prog w) A (binaryOp .Add (.ref t) (.ref b)) Q E s := by
  obtain ⟨⟨cls, dd, data, sl⟩, ho, hc, n, hd⟩ := id ht
  obtain ⟨⟨cls2, dd2, data2, sl2⟩, ho2, hc2, n2, hd2⟩ := id hb
  simp only at hc hd hc2 hd2
  subst hc hd hc2 hd2
  have e : vs.toArray ++ ws.toArray = (vs ++ ws).toArray := by simp
  by_cases hw : ws = []
  · exact concat_meets ⟨_, ho, rfl⟩ ⟨_, ho2, rfl⟩ noFill_tuple_add seq_tuple_add PySem.F.slot_tuple_add PySem.F.entry_tuple_add (PySem.F.args_tuple_add_2 _ _)
      (tuple_addW1 t b vs.toArray ws.toArray n n2 dd dd2 sl sl2 (by simpa using hv) (by simp [hw])) ⟨ho, ho2, h1 hw⟩
  · refine concat_meets ⟨_, ho, rfl⟩ ⟨_, ho2, rfl⟩ noFill_tuple_add seq_tuple_add PySem.F.slot_tuple_add PySem.F.entry_tuple_add (PySem.F.args_tuple_add_2 _ _)
      (tuple_addW2 t b vs.toArray ws.toArray n n2 dd dd2 sl sl2 (by simpa using hv) (by simpa using hw) (by rw [List.size_toArray, List.size_toArray]; exact hsz)) ⟨ho, ho2, ?_⟩
    rw [e]
    exact h2 hw

/-! ### t[a:b], not the whole -/
/-- a slice's bound as a place among n (d where it is left out) -/
def sIx (n d : Nat) : Option Int → Nat
  | none => d
  | some v => if v < 0 then (v + (n : Int)).toNat else min v.toNat n
theorem sIx_nat (n d k : Nat) : sIx n d (some (k : Int)) = min k n := by
  show (if (k : Int) < 0 then ((k : Int) + (n : Int)).toNat else min (k : Int).toNat n) = min k n
  rw [if_neg (by omega), Int.toNat_natCast]
theorem sIx_le (n d : Nat) (hd : d ≤ n) (o : Option Int) : sIx n d o ≤ n := by
  cases o with
  | none => exact hd
  | some v =>
    show (if v < 0 then (v + (n : Int)).toNat else min v.toNat n) ≤ n
    by_cases hv : v < 0
    · rw [if_pos hv]; omega
    · rw [if_neg hv]; exact Nat.min_le_right _ _
theorem clip_eq (v : Int) (n d : Nat) : (if v < 0 then max (v + (n : Int)) 0 else min v (n : Int)) = ((sIx n d (some v) : Nat) : Int) := by
  show (if v < 0 then max (v + (n : Int)) 0 else min v (n : Int)) = (((if v < 0 then (v + (n : Int)).toNat else min v.toNat n) : Nat) : Int)
  by_cases hv : v < 0
  · simp only [if_pos hv]; omega
  · simp only [if_neg hv]; omega
theorem adjust_gen (lo hi : Option Int) (n : Nat) : Builtin.Slice.sliceAdjust lo hi 1 (n : Int) = (((sIx n 0 lo : Nat) : Int), ((sIx n n hi : Nat) : Int)) := by
  have h1 : ¬ ((1 : Int) < 0) := by omega
  unfold Builtin.Slice.sliceAdjust
  simp only [h1, if_false]
  refine Prod.ext ?_ ?_
  · cases lo with
    | none => rfl
    | some v => exact clip_eq v n 0
  · cases hi with
    | none => rfl
    | some v => exact clip_eq v n n
theorem places_gen (i j : Nat) : Builtin.Slice.slicePlaces (i : Int) (j : Int) 1 = j - i := by
  unfold Builtin.Slice.slicePlaces
  have h1 : (1 : Int) > 0 := by omega
  simp only [h1, if_true, Int.ediv_one]
  split <;> omega
theorem slicePart_ {v : Value} {o : Option Int} {Q : Option Int → Shared → Prop} (p : IsPart v o) (h : Q o s) : wpAny (model prog w) A (Builtin.Slice.slicePartIndex v) Q E s := by
  cases p with
  | none => exact slicePart_none h
  | int i t => exact slicePart_int h
theorem sliceApplied_gen {sl : Addr} {vl vu : Value} {lo hi : Option Int} {n : Nat} {Q : Int × Int × Nat → Shared → Prop} (hs : s.heap.IsSliceOf sl vl vu .none) (pl : IsPart vl lo) (pu : IsPart vu hi)
    (h : Q (((sIx n 0 lo : Nat) : Int), 1, sIx n n hi - sIx n 0 lo) s) : wpAny (model prog w) A (Builtin.Slice.sliceApplied (.ref sl) (pure (n : Int))) Q E s := by
  obtain ⟨os, hos, hcs, hds⟩ := id hs
  unfold Builtin.Slice.sliceApplied Builtin.Slice.sliceFields
  refine wpAny_bind (wpAny_bind (wpAny_field hos hds (x := vl) rfl (wpAny_bind (wpAny_field hos hds (x := vu) rfl (wpAny_bind (wpAny_field hos hds (x := .none) rfl (wpAny_pure ?_)))))))
  refine wpAny_bind (slicePart_none ?_)
  show wpAny _ _ (if ((1 : Int) == 0) = true then _ else _) _ _ s
  rw [if_neg (by decide)]
  refine wpAny_bind (slicePart_ pl (wpAny_bind (slicePart_ pu (wpAny_bind (wpAny_pure ?_)))))
  show wpAny _ _ (match Builtin.Slice.sliceAdjust lo hi 1 (n : Int) with | (lo, hi) => pure (lo, (1 : Int), Builtin.Slice.slicePlaces lo hi 1)) _ _ s
  rw [adjust_gen lo hi n]
  show wpAny _ _ (pure (((sIx n 0 lo : Nat) : Int), (1 : Int), Builtin.Slice.slicePlaces ((sIx n 0 lo : Nat) : Int) ((sIx n n hi : Nat) : Int) 1)) _ _ s
  rw [places_gen]
  exact wpAny_pure h
theorem pick_gen (xs : Array Value) (i k : Nat) : ((List.range k).filterMap fun (m : Nat) => xs[((i : Int) + (m : Int) * 1).toNat]?).toArray = ((xs.toList.drop i).take k).toArray := by
  have e : (fun (m : Nat) => xs[((i : Int) + (m : Int) * 1).toNat]?) = fun m => xs[i + m]? := by
    funext m
    have : ((i : Int) + (m : Int) * 1).toNat = i + m := by omega
    rw [this]
  rw [e]
  have := pick_run xs i k
  rw [List.filterMap_map] at this
  have e2 : ((fun x => xs[x]?) ∘ fun x => i + x) = fun m => xs[i + m]? := rfl
  rw [e2] at this
  rw [this]

theorem getItem_tuple_cut {t sl : Addr} {items : Array Value} {vl vu : Value} {lo hi : Option Int} {Q : Value → Shared → Prop} (ht : IsTup s.heap t items) (hs : s.heap.IsSliceOf sl vl vu .none) (pl : IsPart vl lo) (pu : IsPart vu hi)
    (hw : ¬ (sIx items.size 0 lo = 0 ∧ sIx items.size items.size hi = items.size))
    (h : Q (.ref s.heap.objs.size) { s with heap := s.heap.push { cls := .type "tuple", data := .seq ((items.toList.drop (sIx items.size 0 lo)).take (sIx items.size items.size hi - sIx items.size 0 lo)).toArray } })
    (hsz : items.size ≤ sizeLine) : wpAny (model prog w) A (getItem (.ref t) (.ref sl)) Q E s := by
  have htake : sizeOk (.seq ((items.toList.drop (sIx items.size 0 lo)).take (sIx items.size items.size hi - sIx items.size 0 lo)).toArray) := by
    show ((items.toList.drop (sIx items.size 0 lo)).take (sIx items.size items.size hi - sIx items.size 0 lo)).toArray.size ≤ sizeLine
    rw [List.size_toArray, List.length_take, List.length_drop, Array.length_toList]
    omega
  have hj : sIx items.size items.size hi ≤ items.size := sIx_le _ _ (Nat.le_refl _) hi
  obtain ⟨os, hos, hcs, hds⟩ := id hs
  have hTs : s.TypeIs (.ref sl) "slice" := ⟨os, hos, hcs⟩
  unfold getItem
  try with_reducible refine wpAny_holding ?_
  first | refine wpAny_bind (wpAny_pure ?_) | skip
  refine wpAny_bind (wpAny_sequenceKey ht.typeIs (by decide) ?_)
  refine wpAny_bind (wpAny_callSpecial?_slot (name := Str.ofString "__getitem__") ht.typeIs PyProof.Rows.slot_tuple_getitem
    (wpAny_call_entry PyProof.Rows.slot_tuple_getitem ht.typeIs entry_tuple_getitem ?_ (args_tuple_getitem _ _)))
  show wpAny _ _ (Builtin.Tuple.tupleItemsOf (.ref t) >>= _) _ _ s
  refine wpAny_bind (tupleItemsOf_ ht ?_)
  refine wpAny_bind (wpAny_typeOf hTs ?_)
  rw [if_pos (by decide)]
  refine wpAny_bind (sliceApplied_gen hs pl pu ?_)
  have hno : ¬ ((((sIx items.size 0 lo : Nat) : Int) == 0 && (1 : Int) == 1 && (sIx items.size items.size hi - sIx items.size 0 lo) == items.size) = true) := by
    intro q
    rw [Bool.and_eq_true, Bool.and_eq_true] at q
    have q1 : ((sIx items.size 0 lo : Nat) : Int) = 0 := eq_of_beq q.1.1
    have q2 : sIx items.size items.size hi - sIx items.size 0 lo = items.size := eq_of_beq q.2
    exact hw ⟨by omega, by omega⟩
  show wpAny _ _ (if (((sIx items.size 0 lo : Nat) : Int) == 0 && (1 : Int) == 1 && (sIx items.size items.size hi - sIx items.size 0 lo) == items.size) = true then _ else _) _ _ s
  rw [if_neg hno, pick_gen]
  first
    | exact wpAny_bind (m := Builtin.Tuple.tupleExact _) (wpAny_newObj_type (wpAny_pure ⟨_, rfl, wpAny_pure h⟩) htake)
    | exact wpAny_bind (m := Builtin.Tuple.tupleExact _) (wpAny_newObj_type (wpAny_bind (wpAny_pure (wpAny_pure ⟨_, rfl, wpAny_pure h⟩))) htake)
    | exact wpAny_bind (wpAny_bind (m := Builtin.Tuple.tupleExact _) (wpAny_newObj_type (wpAny_pure (wpAny_pure ⟨_, rfl, wpAny_pure h⟩)) htake))
    | exact wpAny_bind (wpAny_bind (m := Builtin.Tuple.tupleExact _) (wpAny_newObj_type (wpAny_pure ⟨_, rfl, wpAny_pure h⟩) htake))
end
end HT

namespace L2
open PySem PySem.Spec PyProof.Rows

/-! ### the parts of a slice -/
abbrev TO := St → Hp → (Option Int → Hp → Prop) → Prop
/-- a slice's part (left out, or an int) -/
def PO (X : Cx) (e : Option Expr) (t : TO) : Prop :=
  ∀ (pins : List (Addr × Obj)) (s : Shared) (σ : St) (H : Hp) (Q : Option Int → Hp → Prop), Inv X pins σ H s → t σ H Q →
    wpAny (model X.prog X.w) X.A (evalPart e X.env) (fun u s' => ∃ o H', Inv X pins σ H' s' ∧ IsPart u o ∧ Q o H') X.xe s
def tNoPart : TO := fun _ H Q => Q none H
def tPart (t : TE) : TO := fun σ H Q => t σ H fun x H1 => ∃ i, x = .int i ∧ Q (some i) H1

section
variable {X : Cx} {e : Expr} {te : TE} {lo hi : Option Expr} {tl th : TO} {pos p2 : Pos}

theorem po_none : PO X none tNoPart := by
  intro pins s σ H Q I h
  rw [evalPart_none]
  exact wpAny_pure ⟨none, H, I, .none, h⟩
theorem po_some (h : PE X e te) : PO X (some e) (tPart te) := by
  intro pins s σ H Q I hw
  rw [evalPart_some]
  refine thn (h pins s σ H _ I hw) fun u s1 ⟨x, H1, I1, r1, q1⟩ => ?_
  obtain ⟨i, rfl, q⟩ := q1
  obtain ⟨t, rfl⟩ := r1
  exact ⟨some i, H1, I1, .int i t, q⟩

/-- what a slice of a value is, by values: the slice object stands at sl -/
def SlR (X : Cx) (r : V → Option Int → Option Int → Hp → VK → Prop) : Prop :=
  ∀ (pins : List (Addr × Obj)) (s : Shared) (σ : St) (H : Hp) (x : V) (v vl vu : Value) (lo hi : Option Int) (sl : Addr) (Q : VK), Inv X pins σ H s → RelV x v → s.heap.IsSliceOf sl vl vu .none → IsPart vl lo → IsPart vu hi → r x lo hi H Q →
    ∃ T id, typeLookup (.type T) "__getitem__" = pure (some (.builtin id)) ∧ s.TypeIs v T ∧ wpAny (model X.prog X.w) X.A (getItem v (.ref sl)) (EP X pins σ Q) X.xe s
theorem SlR.or {r r' : V → Option Int → Option Int → Hp → VK → Prop} (h : SlR X r) (h' : SlR X r') : SlR X (fun x lo hi H Q => r x lo hi H Q ∨ r' x lo hi H Q) := by
  intro pins s σ H x v vl vu lo hi sl Q I rx hs pl pu q
  rcases q with q | q
  · exact h pins s σ H x v vl vu lo hi sl Q I rx hs pl pu q
  · exact h' pins s σ H x v vl vu lo hi sl Q I rx hs pl pu q
def tSl (r : V → Option Int → Option Int → Hp → VK → Prop) (te : TE) (tl th : TO) : TE := fun σ H Q => te σ H fun x H1 => tl σ H1 fun l H2 => th σ H2 fun u H3 => r x l u H3 Q
/-- a[lo:hi], any a -/
theorem pe_slice {r : V → Option Int → Option Int → Hp → VK → Prop} (hr : SlR X r) (he : PE X e te) (hl : PO X lo tl) (hu : PO X hi th) : PE X (.Subscript e (.Slice lo hi none p2) pos) (tSl r te tl th) := by
  intro pins s σ H Q I h
  refine Subscript_ (thn (he pins s σ H _ I h) fun v s1 ⟨x, H1, I1, r1, q1⟩ => ?_)
  refine wpAny_Slice (thn (hl pins s1 σ H1 _ I1 q1) fun vl s2 ⟨l, H2, I2, pl, q2⟩ => thn (hu pins s2 σ H2 _ I2 q2) fun vu s3 ⟨u, H3, I3, pu, q3⟩ => ?_)
  rw [evalPart_none]
  refine wpAny_pure ?_
  have I4 : Inv X pins σ H3 { s3 with heap := s3.heap.push { cls := .type "slice", data := .fields #[vl, vu, .none] } } := I3.kept (t' := s3.toks) fun b ob q => Heap.get?_push_of_some _ q
  obtain ⟨T, id, hT, ht, hg⟩ := hr pins { s3 with heap := s3.heap.push { cls := .type "slice", data := .fields #[vl, vu, .none] } } σ H3 x v vl vu l u s3.heap.objs.size Q I4 r1 (Heap.IsSliceOf.new ..) pl pu q3
  show wpAny (model X.prog X.w) X.A (subscriptTail e (.Slice lo hi none p2) v (.ref s3.heap.objs.size)) (EP X pins σ Q) X.xe { s3 with heap := s3.heap.push { cls := .type "slice", data := .fields #[vl, vu, .none] } }
  exact tail_any (ops := [.ref s3.heap.objs.size, v]) ht hT hg (by with_unfolding_all rfl)

/-- the items of xs[lo:hi] -/
def cutV (xs : List V) (lo hi : Option Int) : List V := (xs.drop (HT.sIx xs.length 0 lo)).take (HT.sIx xs.length xs.length hi - HT.sIx xs.length 0 lo)
theorem cutV_length (xs : List V) (lo hi : Option Int) : (cutV xs lo hi).length ≤ xs.length := by
  unfold cutV
  rw [List.length_take, List.length_drop]
  omega
/-- t[lo:hi], not the whole of it (the whole would be t itself) -/
def rSlT (K : PySem.W.Frag) : V → Option Int → Option Int → Hp → VK → Prop := fun x lo hi H Q => ∃ a xs, x = .ref a ∧ SqT K H a xs ∧
  ¬ (HT.sIx xs.length 0 lo = 0 ∧ HT.sIx xs.length xs.length hi = xs.length) ∧ ∀ p, H p = none → Q (.ref p) (upd H p (.tup (cutV xs lo hi)))
theorem sl_tup : SlR X (rSlT X.K) := by
  intro pins s σ H x v vl vu lo hi sl Q I rx hs pl pu h
  obtain ⟨a, xs, rfl, hx, hw, q⟩ := h
  cases rx
  obtain ⟨its, r, ht, hz⟩ := I.tuple hx
  have hlen : its.toArray.size = xs.length := by rw [List.size_toArray]; exact r.length.symm
  refine ⟨"tuple", _, PyProof.Rows.slot_tuple_getitem.lookup, ht.typeIs, ?_⟩
  refine HT.getItem_tuple_cut ht hs pl pu (by rw [hlen]; exact hw) ?_ (by rw [hlen]; exact hz)
  rw [hlen]
  refine ⟨.ref s.heap.objs.size, _, I.laid (t' := s.toks) (o := .tup (cutV xs lo hi)) (fun b ob q => Heap.get?_push_of_some _ q) (Nat.le_refl _) ?_, rfl, q _ (I.hok.fresh (Nat.le_refl _))⟩
  exact ⟨Nat.le_trans (cutV_length xs lo hi) hz, _, (r.drop (HT.sIx xs.length 0 lo)).take (HT.sIx xs.length xs.length hi - HT.sIx xs.length 0 lo), IsTup.new _ _⟩

/-! ### t < u, t + u -/
def rLtT (K : PySem.W.Frag) : R2 := fun x y H Q => ∃ a b ns ms, x = .ref a ∧ y = .ref b ∧ SqT K H a (ns.map V.int) ∧ SqT K H b (ms.map V.int) ∧ Q (.bl (HT.lexLt ns ms)) H
/-- t + u, t not empty: u empty gives t itself -/
def rCatT (K : PySem.W.Frag) : R2 := fun x y H Q => ∃ a b xs ys, x = .ref a ∧ y = .ref b ∧ SqT K H a xs ∧ SqT K H b ys ∧ xs ≠ [] ∧ xs.length + ys.length ≤ sizeLine ∧
  (ys = [] → Q (.ref a) H) ∧ (ys ≠ [] → ∀ p, H p = none → Q (.ref p) (upd H p (.tup (xs ++ ys))))
theorem Vals.nil_iff {xs : List V} {us : List Value} (r : Vals xs us) : us = [] ↔ xs = [] := by
  cases r with
  | nil => simp
  | cons _ _ => simp
theorem op_catT : OpR X (binaryOp .Add) (rCatT X.K) := by
  intro pins s σ H x y v u Q I rx ry h
  obtain ⟨a, b, xs, ys, rfl, rfl, ha, hb, hx, hz, q1, q2⟩ := h
  cases rx
  cases ry
  obtain ⟨its, r1, p1, _⟩ := I.tuple ha
  obtain ⟨its2, r2, p2, _⟩ := I.tuple hb
  refine HT.cat_tup p1 p2 (fun z => hx (r1.nil_iff.mp z)) (fun z => ⟨.ref a, H, I, rfl, q1 (r2.nil_iff.mp z)⟩) (fun z => ?_) (by rw [← r1.length, ← r2.length]; exact hz)
  refine ⟨.ref s.heap.objs.size, _, I.laid (t' := s.toks) (o := .tup (xs ++ ys)) (fun b ob q => Heap.get?_push_of_some _ q) (Nat.le_refl _) ?_, rfl, q2 (fun w => z (r2.nil_iff.mpr w)) _ (I.hok.fresh (Nat.le_refl _))⟩
  exact ⟨by rw [List.length_append]; exact hz, _, r1.append r2, IsTup.new _ _⟩
end
end L2

namespace L2
open PySem PySem.Spec PyProof.Rows

/-! ### places -/
/-- the place that an index of any sign means -/
def ixN (n : Nat) (i : Int) : Option Nat := if 0 ≤ i then (if i < n then some i.toNat else none) else if -(n : Int) ≤ i then some (i + n).toNat else none
def atI {α : Type} (xs : List α) (i : Int) : Option α := (ixN xs.length i).bind fun j => xs[j]?
theorem ixN_seq {n : Nat} {i : Int} {j : Nat} (h : ixN n i = some j) : seqIndex? i n = some j ∧ j < n ∧ -(n : Int) ≤ i ∧ i < n := by
  unfold ixN at h
  by_cases h0 : 0 ≤ i
  · rw [if_pos h0] at h
    by_cases h1 : i < n
    · rw [if_pos h1] at h
      have e : i.toNat = j := Option.some.inj h
      exact ⟨by rw [seqIndex_of h0 h1, e], by omega, by omega, h1⟩
    · rw [if_neg h1] at h; cases h
  · rw [if_neg h0] at h
    by_cases h1 : -(n : Int) ≤ i
    · rw [if_pos h1] at h
      have e : (i + n).toNat = j := Option.some.inj h
      exact ⟨by rw [seqIndex_neg (by omega) h1, e], by omega, h1, by omega⟩
    · rw [if_neg h1] at h; cases h
theorem atI_get {α : Type} {xs : List α} {i : Int} {v : α} (h : atI xs i = some v) : ∃ j, seqIndex? i xs.length = some j ∧ xs[j]? = some v ∧ j < xs.length ∧ -(xs.length : Int) ≤ i ∧ i < xs.length := by
  unfold atI at h
  cases e : ixN xs.length i with
  | none => rw [e] at h; cases h
  | some j =>
    rw [e] at h
    obtain ⟨h1, h2, h3, h4⟩ := ixN_seq e
    exact ⟨j, h1, h, h2, h3, h4⟩
theorem atI_nat {α : Type} {xs : List α} {j : Nat} {v : α} (h : xs[j]? = some v) : atI xs (j : Int) = some v := by
  have hj : j < xs.length := (List.getElem?_eq_some_iff.mp h).1
  have e : ixN xs.length (j : Int) = some j := by
    unfold ixN
    rw [if_pos (by omega), if_pos (by omega)]; simp
  unfold atI; rw [e]; exact h
/-! ### what may be subscripted -/
/-- what stands as an index of a plain subscript -/
def PlainIx (b : Expr) : Prop := ∀ o i, subscripted b false o i = operate [o, i] (getItem o i)
/-- a subscript by values -/
def IxR (X : Cx) (r : R2) : Prop :=
  ∀ (value slice : Expr) (pins : List (Addr × Obj)) (s : Shared) (σ : St) (H : Hp) (x y : V) (v u : Value) (Q : VK), Inv X pins σ H s → RelV x v → RelV y u → r x y H Q →
    subscripted slice false v u = operate [v, u] (getItem v u) → wpAny (model X.prog X.w) X.A (subscriptTail value slice v u) (EP X pins σ Q) X.xe s
/-- a call of a builtin's method by values: the receiver, the arguments -/
def MtR (X : Cx) (id : String) (r : V → List V → Hp → VK → Prop) : Prop :=
  ∀ (pins : List (Addr × Obj)) (s : Shared) (σ : St) (H : Hp) (x : V) (xs : List V) (v : Value) (us : List Value) (Q : VK), Inv X pins σ H s → RelV x v → Vals xs us → r x xs H Q →
    wpAny (model X.prog X.w) X.A (call (.builtin id) (v :: us)) (EP X pins σ Q) X.xe s
section
variable {X : Cx} {a b : Expr} {ta tb : TE} {pos : Pos}
theorem IxR.or {r r' : R2} (h : IxR X r) (h' : IxR X r') : IxR X (fun x y H Q => r x y H Q ∨ r' x y H Q) := by
  intro value slice pins s σ H x y v u Q I rx ry q hs
  rcases q with q | q
  · exact h value slice pins s σ H x y v u Q I rx ry q hs
  · exact h' value slice pins s σ H x y v u Q I rx ry q hs
theorem MtR.or {id : String} {r r' : V → List V → Hp → VK → Prop} (h : MtR X id r) (h' : MtR X id r') : MtR X id (fun x xs H Q => r x xs H Q ∨ r' x xs H Q) := by
  intro pins s σ H x xs v us Q I rx rs q
  rcases q with q | q
  · exact h pins s σ H x xs v us Q I rx rs q
  · exact h' pins s σ H x xs v us Q I rx rs q
/-- a[b] -/
theorem pe_ix {r : R2} (hr : IxR X r) (ha : PE X a ta) (hb : PE X b tb) (hs : PlainIx b) : PE X (.Subscript a b pos) (tOp r ta tb) := by
  intro pins s σ H Q I h
  exact Subscript_ (binT ha hb I h fun v u s2 x y H2 I2 rx ry q => hr a b pins s2 σ H2 x y v u Q I2 rx ry q (hs _ _))

def rIxL (K : PySem.W.Frag) : R2 := fun x y H Q => ∃ p xs i v, x = .ref p ∧ y = .int i ∧ SqL K H p xs ∧ atI xs i = some v ∧ Q v H
def rIxT (K : PySem.W.Frag) : R2 := fun x y H Q => ∃ p xs i v, x = .ref p ∧ y = .int i ∧ SqT K H p xs ∧ atI xs i = some v ∧ Q v H
def rIxS : R2 := fun x y H Q => ∃ z i c, x = .str z ∧ y = .int i ∧ z.length ≤ sizeLine ∧ atI z.cps.toList i = some c ∧ Q (.str ⟨#[c]⟩) H
theorem ix_list : IxR X (rIxL X.K) := by
  intro value slice pins s σ H x y v u Q I rx ry h hs
  obtain ⟨p, xs, i, z, rfl, rfl, hq, he, q⟩ := h
  cases rx
  obtain ⟨t, rfl⟩ := ry
  obtain ⟨its, r, pl, hz⟩ := I.list hq
  obtain ⟨j, h1, h2, h3, h4, h5⟩ := atI_get he
  obtain ⟨w, ew, rw'⟩ := r.get h2
  have hl := r.length
  have hn := line63
  have fin : EP X pins σ Q w s := ⟨z, H, I, rw', q⟩
  by_cases h0 : 0 ≤ i
  · have hj : i.toNat = j := by
      rw [seqIndex_of h0 h5] at h1
      exact Option.some.inj h1
    exact item_listR pl.isList h0 (by omega) (by rw [hj]; simpa using ew) fin hs
  · have hj : (i + (its.toArray.size : Int)).toNat = j := by
      rw [seqIndex_neg (by omega) h4] at h1
      rw [List.size_toArray, ← hl]
      exact Option.some.inj h1
    exact subscriptTail_builtinR (x := w) pl.isList.typeIs slot_list_getitem.lookup
      (wpAny_getItem_list_neg (Q := fun r s' => r = w ∧ EP X pins σ Q r s') pl.isList (by omega) (by rw [List.size_toArray] <;> omega) (by omega) (by rw [hj]; simpa using ew) ⟨rfl, fin⟩) hs
theorem ix_tup : IxR X (rIxT X.K) := by
  intro value slice pins s σ H x y v u Q I rx ry h hs
  obtain ⟨p, xs, i, z, rfl, rfl, hq, he, q⟩ := h
  cases rx
  obtain ⟨t, rfl⟩ := ry
  obtain ⟨its, r, pl, hz⟩ := I.tuple hq
  obtain ⟨j, h1, h2, h3, h4, h5⟩ := atI_get he
  obtain ⟨w, ew, rw'⟩ := r.get h2
  have hl := r.length
  have hn := line63
  have fin : EP X pins σ Q w s := ⟨z, H, I, rw', q⟩
  exact subscriptTail_builtinR (x := w) pl.typeIs slot_tuple_getitem.lookup
    (getItem_tuple (j := j) (Q := fun r s' => r = w ∧ EP X pins σ Q r s') pl (by omega) (by omega) (by rw [List.size_toArray, ← hl]; exact h1) (by simpa using ew) ⟨rfl, fin⟩) hs
theorem ix_str : IxR X rIxS := by
  intro value slice pins s σ H x y v u Q I rx ry h hs
  obtain ⟨z, i, c, rfl, rfl, hz, he, q⟩ := h
  obtain ⟨t, rfl⟩ := rx
  obtain ⟨t', rfl⟩ := ry
  obtain ⟨j, h1, h2, h3, h4, h5⟩ := atI_get he
  have hl : z.cps.toList.length = z.length := by simp [Str.length]
  rw [hl] at h1 h4 h5
  have hn := line63
  exact tail_any (typeIs_str s z t) slot_str_getitem.lookup (getItem_str (c := c) (by
    have e1 : decide (i < -(2 ^ 63 : Int)) = false := decide_eq_false (by omega)
    have e2 : decide (i ≥ 2 ^ 63) = false := decide_eq_false (by omega)
    rw [e1, e2, Bool.or_false]) (by rw [h1]; simpa using h2) ⟨.str ⟨#[c]⟩, H, I.tok _, ⟨_, rfl⟩, q⟩) hs
/-- list, tuple or str -/
def rIx (K : PySem.W.Frag) : R2 := fun x y H Q => rIxL K x y H Q ∨ rIxT K x y H Q ∨ rIxS x y H Q
theorem ix_seq : IxR X (rIx X.K) := ix_list.or (ix_tup.or ix_str)

/-! ### xs[i] = v, any sign -/
theorem Inv.lst {pins : List (Addr × Obj)} {σ : St} {H : Hp} {s : Shared} {p : Addr} {xs : List V} (I : Inv X pins σ H s) (h : H p = some (.lst xs)) :
    ∃ (its : List Value) (n : Nat), Vals xs its ∧ s.heap.get? p = some { cls := .type "list", data := .seq its.toArray n } ∧ xs.length ≤ sizeLine := by
  obtain ⟨z, its, n, r, e⟩ := I.hok p _ h
  exact ⟨its, n, r, e, z⟩
def rSetL : V → V → V → Hp → (Hp → Prop) → Prop := fun o i v H Q => ∃ p xs k j, o = .ref p ∧ i = .int k ∧ H p = some (.lst xs) ∧ ixN xs.length k = some j ∧ Q (upd H p (.lst (xs.set j v)))
/-! ### slices -/
theorem slice_bounds (lo hi : Option Int) (n : Nat) : (sliceBounds lo hi none n).1 = ((HT.sIx n 0 lo : Nat) : Int) ∧ (sliceBounds lo hi none n).2.1 = ((HT.sIx n n hi : Nat) : Int) ∧ (sliceBounds lo hi none n).2.2 = 1 := by
  refine ⟨?_, ?_, rfl⟩
  · cases lo with
    | none => simp [sliceBounds, HT.sIx]
    | some i =>
      simp only [sliceBounds, HT.sIx, Option.getD_none, show (1 : Int) > 0 by decide, if_true]
      by_cases h : i < 0
      · simp only [h, if_true] <;> omega
      · simp only [h, if_false] <;> omega
  · cases hi with
    | none => simp [sliceBounds, HT.sIx]
    | some i =>
      simp only [sliceBounds, HT.sIx, Option.getD_none, show (1 : Int) > 0 by decide, if_true]
      by_cases h : i < 0
      · simp only [h, if_true] <;> omega
      · simp only [h, if_false] <;> omega
theorem slicePick_cut (its : List Value) (lo hi : Option Int) : slicePick its.toArray lo hi none = ((its.drop (HT.sIx its.length 0 lo)).take (HT.sIx its.length its.length hi - HT.sIx its.length 0 lo)).toArray := by
  obtain ⟨h1, h2, h3⟩ := slice_bounds lo hi its.toArray.size
  unfold slicePick
  rw [h1, h2, h3]
  simp only [sliceRange_one, pick_run, List.size_toArray] <;> rfl
/-- xs[lo:hi] of a list: a new list -/
def rSlL (K : PySem.W.Frag) : V → Option Int → Option Int → Hp → VK → Prop := fun x lo hi H Q => ∃ a xs, x = .ref a ∧ SqL K H a xs ∧ ∀ p, H p = none → Q (.ref p) (upd H p (.lst (cutV xs lo hi)))
theorem sl_list : SlR X (rSlL X.K) := by
  intro pins s σ H x v vl vu lo hi sl Q I rx hs pl pu h
  obtain ⟨a, xs, rfl, hx, q⟩ := h
  cases rx
  obtain ⟨its, r, ht, hz⟩ := I.list hx
  have hlen := r.length
  refine ⟨"list", _, slot_list_getitem.lookup, ht.isList.typeIs, ?_⟩
  refine wpAny_getItem_list_slice ht.isList hs pl pu .none (by simp) ?_ (by rw [List.size_toArray] <;> omega)
  rw [slicePick_cut, ← hlen]
  refine ⟨.ref s.heap.objs.size, _, I.laid (t' := s.toks) (o := .lst (cutV xs lo hi)) (fun b ob q => Heap.get?_push_of_some _ q) (Nat.le_refl _) ?_, rfl, q _ (I.hok.fresh (Nat.le_refl _))⟩
  exact ⟨Nat.le_trans (cutV_length xs lo hi) hz, _, 0, (r.drop (HT.sIx xs.length 0 lo)).take (HT.sIx xs.length xs.length hi - HT.sIx xs.length 0 lo), Heap.get?_push_size _ rfl⟩

/-! ### in, not in: flat items -/
def flatV : V → Bool
  | .non => true
  | .bl _ => true
  | .int _ => true
  | .str _ => true
  | _ => false
/-- == of flat values -/
def eqV : V → V → Bool
  | .non, .non => true
  | .bl a, .bl b => a == b
  | .bl a, .int b => (if a then 1 else 0) == b
  | .int a, .bl b => a == (if b then 1 else 0)
  | .int a, .int b => a == b
  | .str a, .str b => a == b
  | _, _ => false
/-- the items' answers, read off the values (a value's own answer does not lean on its token) -/
def eqU (x : V) (u : Value) : Bool := match u with
  | .none => eqV .non x
  | .bool b => eqV (.bl b) x
  | .int i _ => eqV (.int i) x
  | .str z _ => eqV (.str z) x
  | _ => false
def inV (x : V) (xs : List V) : Bool := xs.any fun y => eqV y x
/-- x in a list or tuple of flat items -/
def rIn (K : PySem.W.Frag) (neg : Bool) : R2 := fun x y H Q => ∃ p xs, y = .ref p ∧ (SqL K H p xs ∨ SqT K H p xs) ∧ flatV x = true ∧ xs.all flatV = true ∧ Q (.bl (if neg then !inV x xs else inV x xs)) H
/-! ### len, list(x), tuple(x) of any list or tuple that is read -/
theorem CallR.or {f : Value} {r r' : List V → Hp → VK → Prop} (h : CallR X f r) (h' : CallR X f r') : CallR X f (fun xs H Q => r xs H Q ∨ r' xs H Q) := by
  intro pins s σ H xs us Q I rs q
  rcases q with q | q
  · exact h pins s σ H xs us Q I rs q
  · exact h' pins s σ H xs us Q I rs q
theorem call_list_of : CallR X (.type "list") (fun xs H Q => ∃ p ys, xs = [.ref p] ∧ (SqL X.K H p ys ∨ SqT X.K H p ys) ∧ ∀ l, H l = none → Q (.ref l) (upd H l (.lst ys))) := by
  intro pins s σ H xs us Q I r h
  obtain ⟨p, ys, rfl, hq, q⟩ := h
  obtain ⟨u, rfl, rx⟩ := vals1 r
  cases rx
  have fin : ∀ (its : List Value), Vals ys its → ys.length ≤ sizeLine → ∀ (h' : Heap) (c' : Nat), (∀ b o', s.heap.get? b = some o' → h'.get? b = some o') →
      h'.get? s.heap.objs.size = some { cls := .type "list", dict := none, data := .seq its.toArray c', slots := #[] } → EP X pins σ Q (.ref s.heap.objs.size) { s with heap := h' } := fun its r' hz h' c' kp e =>
    ⟨.ref s.heap.objs.size, _, I.laid (t' := s.toks) kp (Nat.le_refl _) (show ObjOk X.prog X.w _ h' _ (.lst ys) from ⟨hz, its, c', r', e⟩), rfl, q _ (I.hok.fresh (Nat.le_refl _))⟩
  rcases hq with hq | hq
  · obtain ⟨its, r', pl, hz⟩ := I.list hq
    have hlen := r'.length
    obtain ⟨o, ho, hc, n, hd⟩ := pl.isList
    exact call_list_seq p (.inl rfl) ho hc hd (fun h' c' kp e => fin its r' hz h' c' kp e) (by simp only [List.size_toArray] <;> omega)
  · obtain ⟨its, r', pl, hz⟩ := I.tuple hq
    have hlen := r'.length
    obtain ⟨o, ho, hc, n, hd⟩ := pl
    exact call_list_seq p (.inr rfl) ho hc hd (fun h' c' kp e => fin its r' hz h' c' kp e) (by simp only [List.size_toArray] <;> omega)
/-! ### the call of a builtin's method: o.m(..) -/
/-- the value is of that builtin type -/
def tyV (K : PySem.W.Frag) (T : String) (x : V) (H : Hp) : Prop := match x with
  | .str _ => T = "str"
  | .int _ => T = "int"
  | .ref p => (T = "list" ∧ ∃ xs, SqL K H p xs) ∨ (T = "tuple" ∧ ∃ o, K.lookup p = some o ∧ o.cls = .type "tuple" ∧ o.dict = none) ∨
      (T = "dict" ∧ ((∃ kvs, H p = some (.dK kvs)) ∨ ∃ kvs, H p = some (.dT kvs))) ∨ (T = "set" ∧ ∃ S n, H p = some (.set S n))
  | _ => False
theorem tyV_is {pins : List (Addr × Obj)} {σ : St} {H : Hp} {s : Shared} {T : String} {x : V} {v : Value} (I : Inv X pins σ H s) (r : RelV x v) (ty : tyV X.K T x H) :
    s.TypeIs v T ∧ ∀ a, v = .ref a → ∃ ob, s.heap.get? a = some ob ∧ ob.dict = none := by
  cases x with
  | str z =>
    obtain ⟨t, rfl⟩ := r
    cases (show T = "str" from ty)
    exact ⟨typeIs_str s z t, fun _ e => nomatch e⟩
  | int i =>
    obtain ⟨t, rfl⟩ := r
    cases (show T = "int" from ty)
    exact ⟨typeIs_int s i t, fun _ e => nomatch e⟩
  | ref p =>
    cases r
    rcases ty with ⟨rfl, xs, hq⟩ | ⟨rfl, o, hk, hc, hd⟩ | ⟨rfl, hk⟩ | ⟨rfl, S, n, hk⟩
    · obtain ⟨its, _, pl, _⟩ := I.list hq
      refine ⟨pl.isList.typeIs, fun a e => ?_⟩
      cases e
      obtain ⟨o, n, e, c, hd, _⟩ := pl
      exact ⟨o, e, hd⟩
    · refine ⟨⟨o, I.kIn p o hk, hc⟩, fun a e => ?_⟩
      cases e
      exact ⟨o, I.kIn _ o hk, hd⟩
    · have z : ∃ o, s.heap.get? p = some o ∧ o.ExactDict := by
        rcases hk with ⟨kvs, hk⟩ | ⟨kvs, hk⟩
        · obtain ⟨_, _, _, _, o, _, _, e, ex, _⟩ := I.hok p _ hk
          exact ⟨o, e, ex⟩
        · obtain ⟨_, _, _, _, o, _, _, e, ex, _⟩ := I.hok p _ hk
          exact ⟨o, e, ex⟩
      obtain ⟨o, e, ex⟩ := z
      refine ⟨⟨o, e, ex.1⟩, fun a e2 => ?_⟩
      cases e2
      exact ⟨o, e, ex.2.1⟩
    · obtain ⟨o, _, _, _, e, ex, _⟩ := I.hok p _ hk
      refine ⟨⟨o, e, ex.1⟩, fun a e2 => ?_⟩
      cases e2
      exact ⟨o, e, ex.2.1⟩
  | _ => exact False.elim ty
def tBM0 (K : PySem.W.Frag) (T : String) (r : V → List V → Hp → VK → Prop) (to : TE) : TE := fun σ H Q => to σ H fun x H1 => tyV K T x H1 ∧ r x [] H1 Q
def tBM (K : PySem.W.Frag) (T : String) (r : V → List V → Hp → VK → Prop) (to : TE) (t : TA) : TE := fun σ H Q => to σ H fun x H1 => tyV K T x H1 ∧ t σ H1 fun xs H2 => r x xs H2 Q
variable {o e : Expr} {es : List Expr} {to : TE} {t : TA} {name : Str} {apos cpos : Pos} {T id : String} {r : V → List V → Hp → VK → Prop}
theorem pe_bm (pa : PlainAttrs T) (slot : Slot T name id) (hty : typeOf (.builtin id) = pure (.type "method_descriptor")) (hm : MtR X id r) (ho : PE X o to) (ha : PA X (e :: es) t)
    (hbase : attributeBase o name X.env (eval o X.env) = eval o X.env := by rfl)
    (hfew : ((backTo cpos (starEach (e :: es) X.env)).all (fun x => !x.1) && (backToKw cpos (keywordEach [] X.env)).all (fun x => x.1.isSome)
      && decide ((e :: es).length + ([] : List Keyword).length + (if ([] : List Keyword).isEmpty then 0 else 1) < 30)) = true := by rfl)
    (hline : (apos.endLine == cpos.line) = true := by rfl) (hs : starEach (e :: es) X.env = (false, eval e X.env) :: starEach es X.env := by rfl) (hplain : (backTo cpos (starEach es X.env)).any (·.1) = false := by rfl) :
    PE X (.Call (.Attribute o name apos) (e :: es) [] cpos) (tBM X.K T r to t) := by
  intro pins s σ H Q I h
  refine wpAny_Call_method_late hbase hfew hline rfl (thn (ho pins s σ H _ I h) fun v s1 ⟨x, H1, I1, r1, ty, q1⟩ => ?_)
  obtain ⟨h1, h2⟩ := tyV_is I1 r1 ty
  refine ⟨T, id, pa, slot, hty, h1, h2, ?_⟩
  have hA := ha cpos pins s1 σ H1 _ I1 q1
  rw [hs] at hA ⊢
  refine Calls.callWith_builtin (by show (false || (backTo cpos (starEach es X.env)).any (·.1)) = false; rw [hplain] <;> rfl) (Calls.evalArgs_plain ?_)
  exact thn hA fun us s2 ⟨vs, H2, I2, r2, q2⟩ => hm pins s2 σ H2 x vs v us Q I2 r1 r2 q2
/- xs.append(e), list.index on a module's tuple .. are MtR facts of 06m -/
end
end L2

namespace L2
open PySem PySem.Spec PyProof.Rows

def MtM (X : Cx) (id : String) (r : V → List V → Hp → VK → Prop) : Prop :=
  ∀ (pins : List (Addr × Obj)) (s : Shared) (σ : St) (H : Hp) (x : V) (xs : List V) (v : Value) (us : List Value) (Q : VK), Inv X pins σ H s → RelV x v → Vals xs us → r x xs H Q →
    wpAny (model X.prog X.w) X.A (call (.builtin id) (v :: us)) (EP X pins σ Q) X.xe s

/-! ### lists of values -/
theorem Vals.one : ∀ {x : V} {us : List Value}, Vals [x] us → ∃ u, us = [u] ∧ RelV x u
  | _, _, .cons r .nil => ⟨_, rfl, r⟩
theorem Vals.two : ∀ {x y : V} {us : List Value}, Vals [x, y] us → ∃ u v, us = [u, v] ∧ RelV x u ∧ RelV y v
  | _, _, _, .cons r (.cons q .nil) => ⟨_, _, rfl, r, q⟩
theorem Vals.zero : ∀ {us : List Value}, Vals [] us → us = []
  | _, .nil => rfl
theorem Vals.dropLast {xs : List V} {us : List Value} (h : Vals xs us) : Vals xs.dropLast us.dropLast := by
  induction h with
  | nil => exact .nil
  | cons r t ih =>
    cases t with
    | nil => exact .nil
    | cons q t' => exact .cons r ih
theorem Vals.eraseIdx : ∀ {xs : List V} {us : List Value} (i : Nat), Vals xs us → Vals (xs.eraseIdx i) (us.eraseIdx i)
  | _, _, _, .nil => .nil
  | _, _, 0, .cons _ t => t
  | _, _, i + 1, .cons r t => .cons r (Vals.eraseIdx i t)
theorem Vals.reverse {xs : List V} {us : List Value} (h : Vals xs us) : Vals xs.reverse us.reverse := by
  induction h with
  | nil => exact .nil
  | cons r t ih => rw [List.reverse_cons, List.reverse_cons]; exact Vals.append ih (.cons r .nil)
theorem Vals.rep {xs : List V} {us : List Value} (h : Vals xs us) : ∀ k : Nat, Vals (List.replicate k xs).flatten (List.replicate k us).flatten
  | 0 => .nil
  | k + 1 => by
    rw [List.replicate_succ, List.replicate_succ, List.flatten_cons, List.flatten_cons]
    exact Vals.append h (Vals.rep h k)
theorem foldl_rep (its : List Value) : ∀ (k : Nat) (acc : List Value),
    List.foldl (fun x1 x2 => x1 ++ x2) acc.toArray (List.replicate k its.toArray) = (acc ++ (List.replicate k its).flatten).toArray
  | 0, acc => by simp
  | k + 1, acc => by
    have e : acc.toArray ++ its.toArray = (acc ++ its).toArray := by simp
    have e2 : (acc ++ its) ++ (List.replicate k its).flatten = acc ++ (List.replicate (k + 1) its).flatten := by
      rw [List.replicate_succ, List.flatten_cons, List.append_assoc]
    rw [← e2, ← foldl_rep its k (acc ++ its), ← e, List.replicate_succ, List.foldl_cons]

section
variable {X : Cx} {pins : List (Addr × Obj)} {σ : St} {H : Hp} {s : Shared} {l b : Addr} {xs ys zs : List V}

/-! ### the two steps: a tracked list is rewritten, a new list is laid -/
theorem Inv.lset {its its' : List Value} {n : Nat} {f : Array Value → Array Value} {t' : Nat} (I : Inv X pins σ H s) (hH : H l = some (.lst xs))
    (e : s.heap.get? l = some { cls := .type "list", data := .seq its.toArray n }) (hf : f its.toArray = its'.toArray) (hv : Vals ys its') (hz : ys.length ≤ sizeLine) :
    Inv X pins σ (upd H l (.lst ys)) { s with heap := s.heap.update l (Obj.mapSeq f), toks := t' } := by
  have q := PySem.IsL.update e f
  rw [hf] at q
  refine I.write (x := l) (e := l) (by rw [hH]; exact trivial) (.inl rfl) (fun b' u hb hu => (Heap.get?_update_other s.heap (Obj.mapSeq f) (Ne.symm hb)).trans hu) ⟨_, q⟩ ?_
  exact ⟨hz, its', _, hv, q⟩
theorem Inv.lnew {its : List Value} {t' : Nat} (I : Inv X pins σ H s) (hv : Vals ys its) (hz : ys.length ≤ sizeLine) :
    Inv X pins σ (upd H s.heap.objs.size (.lst ys)) { s with heap := s.heap.push { cls := .type "list", data := .seq its.toArray }, toks := t' } :=
  I.laid (fun _ _ q => Heap.get?_push_of_some _ q) (Nat.le_refl _) ⟨hz, its, 0, hv, Heap.get?_push_size _ rfl⟩
theorem Inv.fresh (I : Inv X pins σ H s) : H s.heap.objs.size = none := I.hok.fresh (Nat.le_refl _)
theorem Inv.lstM (I : Inv X pins σ H s) (hH : H l = some (.lst xs)) : xs.length ≤ sizeLine ∧ ∃ (its : List Value) (n : Nat), Vals xs its ∧ xs.length = its.length ∧ s.heap.get? l = some { cls := .type "list", data := .seq its.toArray n } := by
  obtain ⟨z, its, n, r, e⟩ := I.hok l _ hH
  exact ⟨z, its, n, r, r.length, e⟩

theorem notLongL {n : Nat} (h : n ≤ sizeLine) : Builtin.List.listTooLong n = false := by
  unfold Builtin.List.listTooLong
  exact decide_eq_false (by omega)
end

section
variable {X : Cx}

/-! ### methods -/
def rAppend : V → List V → Hp → VK → Prop := fun x vs H Q => ∃ l xs y, x = .ref l ∧ vs = [y] ∧ H l = some (.lst xs) ∧ xs.length < sizeLine ∧ Q .non (upd H l (.lst (xs ++ [y])))
theorem mt_append : MtM X "list.append" rAppend := by
  intro pins s σ H x vs v us Q I rx rv h
  obtain ⟨l, xs, y, rfl, rfl, hH, hz, q⟩ := h
  cases rx
  obtain ⟨u, rfl, ru⟩ := rv.one
  obtain ⟨z, its, n, r, hl, e⟩ := I.lstM hH
  refine call_meets F.slot_list_append ⟨_, e, rfl⟩ F.entry_list_append (F.args_list_append_2 _ _) (PySem.list_append l its.toArray n u (by rw [List.size_toArray]; omega)) ⟨e, ?_⟩
  refine ⟨.non, _, I.lset (its' := its ++ [u]) hH e (by simp) (r.append (.cons ru .nil)) ?_, rfl, q⟩
  rw [List.length_append, List.length_singleton]
  omega

def rExtend : V → List V → Hp → VK → Prop := fun x vs H Q => ∃ l b xs zs, x = .ref l ∧ vs = [.ref b] ∧ H l = some (.lst xs) ∧ H b = some (.lst zs) ∧ xs.length + zs.length ≤ sizeLine ∧ Q .non (upd H l (.lst (xs ++ zs)))
def rPop : V → List V → Hp → VK → Prop := fun x vs H Q => ∃ l xs y, x = .ref l ∧ vs = [] ∧ H l = some (.lst xs) ∧ xs[xs.length - 1]? = some y ∧ Q y (upd H l (.lst xs.dropLast))
def rPopAt : V → List V → Hp → VK → Prop := fun x vs H Q => ∃ l xs i k y, x = .ref l ∧ vs = [.int i] ∧ H l = some (.lst xs) ∧ -(2 ^ 63) ≤ i ∧ i < 2 ^ 63 ∧ seqIndex? i xs.length = some k ∧ xs[k]? = some y ∧ Q y (upd H l (.lst (xs.eraseIdx k)))
def rReverse : V → List V → Hp → VK → Prop := fun x vs H Q => ∃ l xs, x = .ref l ∧ vs = [] ∧ H l = some (.lst xs) ∧ Q .non (upd H l (.lst xs.reverse))
def rClear : V → List V → Hp → VK → Prop := fun x vs H Q => ∃ l xs, x = .ref l ∧ vs = [] ∧ H l = some (.lst xs) ∧ Q .non (upd H l (.lst []))
/-! ### list + list, list += list, list * int -/
def rCat : R2 := fun x y H Q => ∃ l b xs zs, x = .ref l ∧ y = .ref b ∧ H l = some (.lst xs) ∧ H b = some (.lst zs) ∧ xs.length + zs.length ≤ sizeLine ∧ ∀ p, H p = none → Q (.ref p) (upd H p (.lst (xs ++ zs)))
theorem op_cat : OpR X (binaryOp .Add) rCat := by
  intro pins s σ H x y v u Q I rx ry h
  obtain ⟨l, b, xs, zs, rfl, rfl, hH, hB, hz, q⟩ := h
  cases rx
  cases ry
  obtain ⟨z, its, n, r, hl, e⟩ := I.lstM hH
  obtain ⟨z2, its2, n2, r2, hl2, e2⟩ := I.lstM hB
  refine PySem.P.add_list e e2 ?_ (by rw [List.size_toArray, List.size_toArray]; omega)
  have ea : its.toArray ++ its2.toArray = (its ++ its2).toArray := by simp
  rw [ea]
  exact ⟨.ref _, _, I.lnew (t' := s.toks) (r.append r2) (by rw [List.length_append]; omega), rfl, q _ I.fresh⟩
/-- a list times an int (a negative one is nothing) -/
def rRep : R2 := fun x y H Q => ∃ l k xs, x = .ref l ∧ y = .int k ∧ H l = some (.lst xs) ∧ -(2 ^ 63) ≤ k ∧ k < 2 ^ 63 ∧ xs.length * k.toNat ≤ sizeLine ∧
  ∀ p, H p = none → Q (.ref p) (upd H p (.lst (List.replicate k.toNat xs).flatten))
theorem len_rep {α : Type} (xs : List α) (k : Nat) : (List.replicate k xs).flatten.length = k * xs.length := by
  induction k with
  | zero => simp
  | succ k ih => rw [List.replicate_succ, List.flatten_cons, List.length_append, ih, Nat.succ_mul, Nat.add_comm]
theorem op_rep : OpR X (binaryOp .Mult) rRep := by
  intro pins s σ H x y v u Q I rx ry h
  obtain ⟨l, k, xs, rfl, rfl, hH, h1, h2, hz, q⟩ := h
  cases rx
  obtain ⟨t, rfl⟩ := ry
  obtain ⟨z, its, n, r, hl, e⟩ := I.lstM hH
  have hlen : its.toArray.size * k.toNat ≤ sizeLine := by rw [List.size_toArray, ← hl]; exact hz
  have hcap : ¬ its.toArray.size * k.toNat > (2 ^ 63 - 1) / 8 := by
    have : (sizeLine : Nat) ≤ (2 ^ 63 - 1) / 8 := by decide
    omega
  have hfit : ¬ (!Builtin.List.listFitsIndex k) = true := by
    rw [fitsIndex_both h1 h2]
    exact Bool.false_ne_true
  have hlong : ¬ Builtin.List.listTooLong (its.toArray.size * k.toNat) = true := by
    rw [notLongL hlen]
    exact Bool.false_ne_true
  have hnew : List.foldl (fun x1 x2 => x1 ++ x2) #[] (List.replicate (if its.toArray.isEmpty = true then 0 else k.toNat) its.toArray) = (List.replicate k.toNat its).flatten.toArray := by
    have f0 : ∀ m : Nat, List.foldl (fun x1 x2 => x1 ++ x2) #[] (List.replicate m its.toArray) = (List.replicate m its).flatten.toArray := fun m => by
      have := foldl_rep its m []
      rw [List.nil_append] at this
      exact this
    rw [f0]
    cases its with
    | nil => simp
    | cons a r' => rw [if_neg (by simp)]
  refine wpAny_binaryOp_repeat_ref (T := "list") (U := "int") (by decide) ⟨_, e, rfl⟩ (fun s' => typeIs_int s' k t) noFill_list_mul F.fills_int_mul F.slot_int_rmul repeat_list F.slot_int_index.lookup
    (call_meets F.slot_int_rmul (typeIs_int s k t) F.entry_int_rmul (F.args_int_rmul_2 _ _) (int___rmul___int_list k t l its.toArray n)
      ⟨e, rfl, ⟨_, e, rfl⟩, call_meets F.slot_list_mul ⟨_, e, rfl⟩ F.entry_list_mul (F.args_list_mul_2 _ _) (AutoListH.list___mul___list_int_3 l its.toArray n k t hfit hcap hlong) ⟨e, ?_⟩⟩)
  rw [hnew]
  exact ⟨.ref _, _, I.lnew (t' := s.toks) (r.rep k.toNat) (by rw [len_rep, Nat.mul_comm]; exact hz), rfl, q _ I.fresh⟩

/-! ### del xs[i] -/
end

/-! ### xs[a:b] = ys -/
section
variable {prog : Program} {w : World} {A : Around} {E : Value → Shared → Prop} {s : Shared}
end

section
variable {X : Cx}
end
end L2

namespace Att
open PySem PySem.W PySem.Calls PyProof.Rows

/-! ### the script -/
theorem ints_of_wellAll {P : Params} {h : Heap} : ∀ (ns : List Int) (vs : List Value), WellAll P h vs (ns.map WData.int) → IntsAre vs ns := by
  intro ns
  induction ns with
  | nil =>
    intro vs w
    rw [List.map_nil] at w
    cases w
    exact .nil
  | cons n ns ih =>
    intro vs w
    rw [List.map_cons] at w
    cases w with
    | cons a b =>
      cases a
      exact .cons _ _ (ih _ b)

theorem script_of {l : OpenLaw} {n : Nat} (hn : l.most = some n) {P : Params} {h : Heap} {args : List WData} {vals : List Value}
    (hpre : l.row.toRowW.claim.pre args = true) (hwl : WellAll P h vals args) :
    ∃ a vs ns, vals = [Value.ref a] ∧ args = [WData.list (ns.map WData.int)] ∧ h.get? a = some { cls := .type "list", data := .seq vs.toArray } ∧ IntsAre vs ns ∧ ns.length ≤ n := by
  have hsh : WShape.hasAll [] args [.list .int] = true := (pre_splitW hpre).1
  have hc : l.pre.holds [] { args := args } = true := (pre_splitW hpre).2
  obtain ⟨d, r, rfl, h1, h2⟩ := hasAllW_cons hsh
  obtain rfl := hasAllW_nil h2
  obtain ⟨xs, rfl, h3⟩ := hasW_list h1
  obtain ⟨ns, rfl⟩ := items_int h3
  have hlen : ns.length ≤ n := by
    unfold OpenLaw.pre at hc
    have h4 : (WTm.not (.lt (.lit (.int (n : Int))) (.len (.arg 0)))).holds [] { args := [.list (ns.map .int)] } = true := by
      have h4 := (holds_andW hc).1
      rw [hn] at h4
      exact h4
    have h5 := condW_of h4 (w_not (w_lt w_lit (w_len_list (w_arg rfl))))
    rw [List.length_map] at h5
    refine Nat.le_of_not_lt fun q => ?_
    have q' : (n : Int) < ((ns.length : Nat) : Int) := by omega
    first
      | (rw [decide_eq_true q'] at h5; exact absurd h5 (by decide))
      | (simp at h5; omega)
  cases hwl with
  | cons w1 w2 =>
    cases w2
    cases w1 with
    | list ho hall => exact ⟨_, _, ns, rfl, rfl, ho, ints_of_wellAll ns _ hall, hlen⟩

theorem post_true (l : OpenLaw) (args : List WData) : l.row.toRowW.claim.post args (.bool true) args = true :=
  postW_of (r := l.row.toRowW) (X := (true == true))
    (show WShape.has [] (.bool true) .bool = true by first | rfl | decide | simp [WShape.has, WShape.arms, WShape.armsAll])
    (show (WTm.eq .res (.lit (.bool true))).value [] { args := args, res := some (.bool true), after := args } = some (.bool (true == true)) from w_eq_bool (w_res rfl) w_lit) rfl

/-! ### the attachment: holds_open's last premise (the goal 'hc' behind k_head) from a wpAny of the law's body -/
/-- the same from a codeAny of the CALL (for a layer whose function contracts speak of calls) -/
theorem attach_call {l : OpenLaw} {n : Nat} {q : Program} {loose : List Str} {XP : (Str → Option Value) → Heap → Prop} {YP : World → Heap → Prop} {d : DefRec}
    (hn : l.most = some n) (hdf : d.params.defaults = [])
    (call : ∀ (w : World) (s₀ s₁ : Shared) (mg mb : Str → Option Value) (fa : Addr) (o : Obj) (pm cd doc : Value) (a : Addr) (vs : List Value) (ns : List Int),
      Ground q loose [] XP w s₀ mg mb s₁.heap → YP w s₁.heap →
      s₁.heap.get? fa = some o → o.data = .func (docDef d.name d.params d.body d.scope pm cd doc) → s₁.heap.CodeRec cd d.name → mg d.name = some (.ref fa) →
      s₁.heap.get? a = some { cls := .type "list", data := .seq vs.toArray } → IntsAre vs ns → ns.length ≤ n → s₁.gens = #[] →
      codeAny (model l.prog w) callerA (.call (.ref fa) ⟨[.ref a], []⟩) (fun r s' => r = .ok (.ret (.bool true)) ∧ OldK s₁.heap s'.heap ∧ s'.os = s₁.os ∧ AllBare s'.gens) s₁) :
    WalkO q loose XP YP l.row.toRowW d [] (fun f vs => PySem.call f vs) := by
  intro w s₀ s₁ mg mb G Y fa o pm cd doc dV kV ho hd hcd hD hmg hg args vals as hpre hlay hrd hwl hlo
  obtain rfl : dV = .none := Dflts.none hD hdf
  obtain rfl : kV = .none := Dflts.noKw hD
  obtain ⟨a, vs, ns, rfl, rfl, hobj, hints, hlen⟩ := script_of hn hpre hwl
  refine enter_call (codeAny_mono (call w s₀ s₁ mg mb fa o pm cd doc a vs ns G Y ho (fd_plain hd) hcd hmg hobj hints hlen hg) fun r s' hq => ?_)
  obtain ⟨rfl, h2, h3, h4⟩ := hq
  exact ⟨.inl ⟨.bool true, .bool true, [], rfl, fun _ => rfl, .bool true, post_true l _, fun _ => ⟨List.Pairwise.nil, fun _ hm => (nomatch hm)⟩⟩, h2, h3, h4⟩

/-! ### rules over ANY heap (no ledger) from facts about the written part K: the library's own take a ledger (News) for what they write -/
section
variable {prog : Program} {w : World} {A : Around} {E : Value → Shared → Prop} {s : Shared} {K : Frag}

/-! the whole heap as the ledger: makes every rule that writes through a ledger a rule over any heap -/
def noObjs (h : Heap) : Heap := { h with objs := #[] }
def ledger (h : Heap) (L d : Addr) : List (Addr × Obj) := (List.range h.objs.size).filterMap fun a => if a = L ∨ a = d then none else (h.get? a).map fun o => (a, o)
end
end Att

namespace L2
open PySem PySem.Spec PyProof.Rows

theorem vals_ints : ∀ {vs : List Value} {ns : List Int}, IntsAre vs ns → Vals (ns.map V.int) vs
  | _, _, .nil => .nil
  | _, _, .cons n t h => .cons ⟨t, rfl⟩ (vals_ints h)

/-- nothing is tracked but the script, known to the object (or it is an object of the module) -/
def Only (H : Hp) : Prop := ∀ b, H b = none ∨ ∃ o xs, H b = some (.frz o (.lst xs))

/-- THE HEAD: the law's promise, at the heap behind the top. F, the promise of the law's def, may use that base is part of the heap (so K.In base, base.Ns mainGlobals mg stand in Mod) -/
theorem law_call {P : Program} {w : World} {K : PySem.W.Frag} {mg mb : Str → Option Value} {CX : CXT} {k : Nat} {fa a : Addr} {fd : FuncData} {x : Str} {sp : Sp} {s₁ : Shared} {vs : List Value} {ns : List Int}
    (KX : K.In s₁.heap) (hns : s₁.heap.Ns mainGlobals mg) (hb : s₁.heap.Ns builtinsNs mb) (hbb : ∀ x : Str, x ≠ "__name__" → mb x = bootBuiltins x) (hlim : s₁.heap.NoLimit) (hg : s₁.gens = #[])
    (ha : s₁.heap.get? a = some { cls := .type "list", data := .seq vs.toArray }) (hi : IntsAre vs ns) (hl : ns.length ≤ sizeLine) (hr : Room k callerA)
    (F : ∀ base : Heap, K.In base → base.Ns mainGlobals mg → FnOk P w K mg base CX k fa fd [x] sp) (hbind : ∀ (s : Shared) (u : Value), BindsTo s fd ⟨[u], []⟩ [(x, u)])
    (hsp : ∀ H : Hp, Only H → SqL K H a (ns.map V.int) → sp [.ref a] H (fun v _ => v = .bl true) fun _ _ _ => False)
    (hCX : ∀ H e s', CX [] H s₁ (fun _ _ _ => False) e s' → False) :
    codeAny (model P w) callerA (.call (.ref fa) ⟨[.ref a], []⟩) (fun r s' => r = .ok (.ret (.bool true)) ∧ OldK s₁.heap s'.heap ∧ s'.os = s₁.os ∧ AllBare s'.gens) s₁ := by
  have rv := vals_ints hi
  have lenV := hi.length
  -- from an abstract heap in which nothing but the script may be tracked
  have core : ∀ H : Hp, Only H → SqL K H a (ns.map V.int) → HOk P w H s₁.heap → (∀ b, H b ≠ none → b = a) → (H a ≠ none → K.lookup a = none) →
      codeAny (model P w) callerA (.call (.ref fa) ⟨[.ref a], []⟩) (fun r s' => r = .ok (.ret (.bool true)) ∧ OldK s₁.heap s'.heap ∧ s'.os = s₁.os ∧ AllBare s'.gens) s₁ := by
    intro H hO hS hok hA hK
    have base_of : ∀ {b : Addr} {o : Obj}, s₁.heap.get? b = some o → H b = none → (hidT s₁.heap H).get? b = some o := fun e n => hidT_get e n
    have noA : ∀ {b : Addr} {o : Obj} {es : Array DictEntry} {ep : Nat}, s₁.heap.get? b = some o → o.data = .dict es ep → H b = none := fun {b o es ep} e d => by
      cases q : H b with
      | none => rfl
      | some u =>
        have e' : b = a := hA b (by rw [q]; simp)
        subst e'
        rw [ha] at e; cases e
        have d' : Data.seq vs.toArray _ = Data.dict es ep := d
        cases d'
    have nsK : ∀ {b : Addr} {m : Str → Option Value}, s₁.heap.Ns b m → (hidT s₁.heap H).Ns b m := fun {b m} ⟨o, es, ep, e, d, r⟩ => ⟨o, es, ep, base_of e (noA e d), d, r⟩
    have hKb : K.In (hidT s₁.heap H) := fun b o e => base_of (KX b o e) (by
      cases q : H b with
      | none => rfl
      | some u =>
        have e' : b = a := hA b (by rw [q]; simp)
        subst e'
        rw [hK (by rw [q]; simp)] at e; cases e)
    have hM : Mod K mg (hidT s₁.heap H) := ⟨hKb, nsK hns, ⟨mb, nsK hb, hbb⟩, let ⟨mc, h1, h2⟩ := hlim; ⟨mc, nsK h1, h2⟩⟩
    have e0 : Env0 P w K mg (hidT s₁.heap H) callerA [] s₁ H := ⟨rfl, hM, fun b o e => of_hidT e, Nat.le_of_eq (hidT_size _ _), trivial, fun b hb => absurd (show b ∈ ([] : List Addr) from hb) (by simp), hok, .of_eq hg⟩
    refine codeAny_mono ((F _ hKb (nsK hns)).run callerA [] s₁ H ⟨[.ref a], []⟩ [.ref a] [.ref a] _ _ hr e0 (hbind s₁ (.ref a)) (.cons rfl .nil) (hsp H hO hS)) fun r s' h => ?_
    cases r with
    | error e => exact (hCX H e s' h).elim
    | ok fl =>
      cases fl with
      | next => exact False.elim h
      | brk => exact False.elim h
      | cont => exact False.elim h
      | ret u =>
        obtain ⟨v, H', os, bare, un, hok', r', q⟩ := h
        have q' : v = .bl true := q
        subst q'
        obtain rfl : u = Value.bool true := r'
        refine ⟨rfl, OldK.of_keep fun b o e => ?_, os, bare⟩
        cases q : H b with
        | none => exact un.keep b o e q (by intro z; exact absurd (show b ∈ ([] : List Addr) from z) (by simp)) (by simp)
        | some u =>
          rcases hO b with z | ⟨ob, xs, z⟩
          · rw [q] at z; cases z
          · have z2 := un.frzs b ob _ z
            obtain ⟨e1, _⟩ := hok b _ z
            obtain ⟨e2, _⟩ := hok' b _ z2
            rw [e] at e1; cases e1
            exact e2
  cases hk : K.lookup a with
  | some o =>
    -- the script is one of the module's own objects
    have e := KX a o hk
    rw [ha] at e
    cases e
    refine core (fun _ => none) (fun _ => .inl rfl) (.inr ⟨_, vs.toArray, _, hk, rfl, rfl, rfl, by rw [List.size_toArray, lenV]; exact hl, by simpa using rv⟩) (fun b u z => by have z' : (none : Option HO) = some u := z; cases z') (fun b z => absurd rfl z) fun z => absurd rfl z
  | none =>
    refine core (fun b => if b = a then some (.frz { cls := .type "list", data := .seq vs.toArray } (.lst (ns.map V.int))) else none) (fun b => ?_) (.inl (.inr ⟨{ cls := .type "list", data := .seq vs.toArray }, if_pos rfl⟩)) (fun b u z => ?_) (fun b z => ?_) fun _ => hk
    · by_cases hb : b = a
      · exact .inr ⟨_, _, if_pos hb⟩
      · exact .inl (if_neg hb)
    · by_cases hb : b = a
      · have z' := (if_pos hb).symm.trans z
        cases z'
        subst hb
        exact ⟨ha, by rw [List.length_map]; exact hl, vs, _, rv, ha⟩
      · have z' := (if_neg hb).symm.trans z
        cases z'
    · by_cases hb : b = a
      · exact hb
      · exact absurd (if_neg hb) z
end L2

namespace L2
open PySem PySem.Spec PyProof.Rows

abbrev KOf {K : PySem.W.Frag} {h : Heap} (_ : K.In h) : PySem.W.Frag := K

/-- the goal that k_head leaves (case hc), from the law's promise. F gives the function object fd (K's own) once, then the promise over every base -/
theorem walk_of {l : PySem.W.OpenLaw} {n k : Nat} {q : Program} {loose : List Str} {XP : (Str → Option Value) → Heap → Prop} {YP : World → Heap → Prop} {d : DefRec} {K : Params → PySem.W.Frag} {CX : World → CXT} {sp : World → Sp} {x : Str}
    (hn : l.most = some n) (hn2 : n ≤ sizeLine) (hdf : d.params.defaults = []) (hr : Room k callerA)
    (hY : ∀ (w : World) (h : Heap), YP w h → (K w.params).In h)
    (F : ∀ (w : World) (mg : Str → Option Value) (fa : Addr) (h : Heap), (K w.params).In h → h.Ns mainGlobals mg → mg d.name = some (.ref fa) →
      ∃ fd : FuncData, (∀ (s : Shared) (u : Value), BindsTo s fd ⟨[u], []⟩ [(x, u)]) ∧
        ∀ base : Heap, (K w.params).In base → base.Ns mainGlobals mg → FnOk l.prog w (K w.params) mg base (CX w) k fa fd [x] (sp w))
    (hsp : ∀ (w : World) (H : Hp) (a : Addr) (ns : List Int), ns.length ≤ n → Only H → SqL (K w.params) H a (ns.map V.int) → sp w [.ref a] H (fun v _ => v = .bl true) fun _ _ _ => False)
    (hCX : ∀ (w : World) (H : Hp) (s : Shared) (e : Value) (s' : Shared), CX w [] H s (fun _ _ _ => False) e s' → False) :
    PySem.W.WalkO q loose XP YP l.row.toRowW d [] (fun f vs => PySem.call f vs) := by
  refine Att.attach_call hn hdf fun w s₀ s₁ mg mb fa o pm cd doc a vs ns G Y ho hd hcd hmg hobj hints hlen hg => ?_
  have KX := hY w _ Y
  obtain ⟨fd, hb, hF⟩ := F w mg fa _ KX G.T.g hmg
  exact law_call KX G.T.g G.T.b G.T.builtins G.T.nolimit hg hobj hints (Nat.le_trans hlen hn2) hr hF hb (fun H hO hS => hsp w H a ns hlen hO hS) fun H e s' => hCX w H s₁ e s'
end L2


/-! SHORT WORDS over the layer: a def of the text, its body, what a loop and a test want. -/
namespace L2
open PySem PySem.Spec PyProof.Rows

/-! ### the text by places -/
/-- the j-th statement of a class's body -/
def inClass (s : Stmt) (j : Nat) : Stmt := match s with
  | .ClassDef _ _ _ body _ _ _ _ _ _ _ => body.getD j (.Pass ⟨0, 0, 0, 0⟩)
  | _ => .Pass ⟨0, 0, 0, 0⟩
def defArgs (s : Stmt) : Arguments := match s with
  | .FunctionDef _ a _ _ _ _ _ _ _ _ => a
  | _ => { posonlyargs := [], args := [], vararg := none, kwonlyargs := [], kw_defaults := [], kwarg := none, defaults := [] }
def defBody (s : Stmt) : List Stmt := match s with
  | .FunctionDef _ _ b _ _ _ _ _ _ _ => b
  | _ => []
def defScope (s : Stmt) : Scope := match s with
  | .FunctionDef _ _ _ _ _ _ sc _ _ _ => sc
  | _ => { kind := .function, names := [], isGenerator := false, isCoroutine := false }

/-! ### no exception leaves a def -/
abbrev CX0 : CXT := fun _ _ _ _ _ _ => False
abbrev E0 : XK := fun _ _ _ => False
theorem pass0 {X : Cx} : Passes CX0 X E0 := fun _ _ _ _ _ _ _ h => h.elim

/-! ### a def (or method) of the text as it stands behind the top -/
structure Fun (K : PySem.W.Frag) (x qual : Str) (st : Stmt) (f : Addr) (fd : FuncData) : Prop where
  ex : ∃ (oc : Value) (od : Option Addr) (kV doc pm : Value) (an : Option Addr) (cdv ct : Value) (osl : Array (Option Value)),
    fd = PySem.W.fnOf x qual (defArgs st) (defBody st) (defScope st) .none kV doc pm an cdv ct ∧ K.lookup f = some ⟨oc, od, .func fd, osl⟩ ∧ PySem.W.codeIn K cdv qual = true
  kp : PySem.W.keepIn K (.ref f) = true
section
variable {P : Program} {w : World} {K : PySem.W.Frag} {mg : Str → Option Value} {base : Heap}
/-- THE RULE for a def: its body as a term of rules, and the reading of that term -/
theorem Fun.ok {x qual : Str} {st : Stmt} {f : Addr} {fd : FuncData} {N ps : List Str} {k : Nat} {sp : Sp} (F : Fun K x qual st f fd) (S : FnScope N ps (defScope st)) (len : ∀ vs H Q E, sp vs H Q E → vs.length = ps.length)
    (hbody : ∀ (cdv : Value) (A : Around) (outer : List Env) (s : Shared) (H : Hp) (vs : List V) (Q : VK) (E : XK), Room k (A.deeper (envOfC qual (defScope st) s.heap.objs.size f cdv)) → sp vs H Q E →
      ∃ t, PSs (cxOf CX0 P w K mg base N qual (defScope st) f cdv A outer s H E).nox (defBody st) t ∧ t { nx := fun _ H' => Q .non H', rt := Q } (start N vs) H) : FnOk P w K mg base CX0 (k + 1) f fd ps sp := by
  obtain ⟨oc, od, kV, doc, pm, an, cdv, ct, osl, rfl, lk, hcd⟩ := F.ex
  refine fn_of lk hcd S len fun A outer s H vs Q E hr hsp => ?_
  obtain ⟨t, h, q⟩ := hbody cdv A outer s H vs Q E hr hsp
  exact ⟨t, h.nox, q⟩
/-- how its arguments bind (no defaults): h is «fun _ _ _ _ _ _ us hl => match us, hl with | [_, _], _ => rfl», one _ a parameter -/
theorem Fun.binds {x qual : Str} {st : Stmt} {f : Addr} {fd : FuncData} {ps : List Str} (F : Fun K x qual st f fd)
    (h : ∀ (kV doc pm : Value) (an : Option Addr) (cdv ct : Value) (us : List Value), us.length = ps.length → bindArgs (PySem.W.fnOf x qual (defArgs st) (defBody st) (defScope st) .none kV doc pm an cdv ct) ⟨us, []⟩ = pure (ps.zip us)) : Binds K fd ps [] := by
  obtain ⟨oc, od, kV, doc, pm, an, cdv, ct, osl, rfl, lk, hcd⟩ := F.ex
  exact .all (h kV doc pm an cdv ct)
theorem fun_mk {x qual : Str} {st : Stmt} {f : Addr} {oc : Value} {od an : Option Addr} {osl : Array (Option Value)} {kV doc pm cdv ct : Value} (l : K.lookup f = some ⟨oc, od, .func (PySem.W.fnOf x qual (defArgs st) (defBody st) (defScope st) .none kV doc pm an cdv ct), osl⟩)
    (c : PySem.W.codeIn K cdv qual = true) (k : PySem.W.keepIn K (.ref f) = true) : Fun K x qual st f (PySem.W.fnOf x qual (defArgs st) (defBody st) (defScope st) .none kV doc pm an cdv ct) := ⟨⟨oc, od, kV, doc, pm, an, cdv, ct, osl, rfl, l, c⟩, k⟩
end
theorem hu_of {A : Around} {k : Nat} (hr : Room k A) : A.units + 1 < cLine := Nat.lt_of_le_of_lt (Nat.add_le_add_left (by decide : 1 ≤ 64) _) hr.units
/-! ### expressions in short: the name that stands in the i-th slot -/
section
variable {X : Cx}
theorem pv (i : Nat) {x : Str} {pos : Pos} (hN : X.N[i]? = some x := by rfl) (hv : Vis X.env.scope x := by first | exact Or.inl rfl | exact Or.inr (Or.inl rfl) | exact Or.inr (Or.inr rfl)) (hd : (x == ("__debug__" : Str)) = false := by decide)
    (hcd : (x == ("__classdict__" : Str)) = false := by decide) : PE X (.Name x pos) (tVar i) := pe_var hN hv hd hcd
end

/-! ### tests -/
theorem iteF {A B : Prop} (h : B) : if false = true then A else B := by
  rw [if_neg Bool.false_ne_true]
  exact h
theorem iteT {A B : Prop} (h : A) : if true = true then A else B := by
  rw [if_pos rfl]
  exact h
theorem ite2 {c A B : Prop} [Decidable c] (h1 : c → A) (h2 : ¬ c → B) : if c then A else B := by
  by_cases h : c
  · rw [if_pos h]
    exact h1 h
  · rw [if_neg h]
    exact h2 h
/-! ### heaps -/
/-- all that was tracked is as it was -/
def Same (H H' : Hp) : Prop := ∀ b o, H b = some o → H' b = some o
theorem Same.refl (H : Hp) : Same H H := fun _ _ h => h
theorem Same.trans {H H1 H2 : Hp} (a : Same H H1) (b : Same H1 H2) : Same H H2 := fun c o h => b c o (a c o h)
theorem Same.free {H H' : Hp} (e : Same H H') {l : Addr} (h : H' l = Option.none) : H l = Option.none := by
  cases q : H l with
  | none => rfl
  | some o =>
    rw [e l o q] at h
    cases h
theorem Same.seq {K : PySem.W.Frag} {H H' : Hp} {a : Addr} {xs : List V} (e : Same H H') (h : SqL K H a xs) : SqL K H' a xs := by
  rcases h with (h | ⟨o, h⟩) | h
  · exact .inl (.inl (e _ _ h))
  · exact .inl (.inr ⟨o, e _ _ h⟩)
  · exact .inr h

end L2

set_option Elab.async false
set_option linter.all false
set_option maxRecDepth 100000
namespace L2
open PySem PySem.Spec PyProof.Rows

/-! ### lists of pairs as tables -/
section
variable {κ : Type} [DecidableEq κ]
def valV (kvs : List (κ × V)) (k : κ) : Option V := (kvs.find? fun kv => decide (kv.1 = k)).map (·.2)
/-- in its place, or at the end -/
def putK (kvs : List (κ × V)) (k : κ) (v : V) : List (κ × V) :=
  if (kvs.any fun kv => decide (kv.1 = k)) = true then kvs.map (fun kv => if kv.1 = k then (kv.1, v) else kv) else kvs ++ [(k, v)]
def dropK (kvs : List (κ × V)) (k : κ) : List (κ × V) := kvs.filter fun kv => decide (kv.1 ≠ k)

theorem valV_pos {p : κ × V} {r : List (κ × V)} {k : κ} (e : p.1 = k) : valV (p :: r) k = some p.2 := by simp [valV, List.find?_cons, e]
theorem valV_neg {p : κ × V} {r : List (κ × V)} {k : κ} (e : ¬ p.1 = k) : valV (p :: r) k = valV r k := by simp [valV, List.find?_cons, e]
theorem valV_any (k : κ) : ∀ kvs : List (κ × V), (kvs.any fun kv => decide (kv.1 = k)) = (valV kvs k).isSome
  | [] => rfl
  | p :: r => by
    rw [List.any_cons]
    by_cases e : p.1 = k
    · simp only [valV_pos e, decide_eq_true e, Bool.true_or, Option.isSome_some]
    · rw [valV_neg e, decide_eq_false e, Bool.false_or]; exact valV_any k r
theorem length_putK (kvs : List (κ × V)) (k : κ) (v : V) : (putK kvs k v).length ≤ kvs.length + 1 := by
  unfold putK
  split
  · rw [List.length_map]; omega
  · rw [List.length_append, List.length_cons, List.length_nil]; omega
theorem RelO.isSome_eq {o : Option V} {u : Option Value} (r : RelO o u) : o.isSome = u.isSome := by
  cases o with
  | none => cases u with
    | none => rfl
    | some _ => exact (show False from r).elim
  | some _ => cases u with
    | none => exact (show False from r).elim
    | some _ => rfl
theorem RelO.getD {o : Option V} {u : Option Value} {d : V} {d' : Value} (r : RelO o u) (rd : RelV d d') : RelV (o.getD d) (u.getD d') := by
  cases o with
  | none => cases u with
    | none => exact rd
    | some _ => exact (show False from r).elim
  | some _ => cases u with
    | none => exact (show False from r).elim
    | some _ => exact r

/-- raw tables of the same keys -/
theorem KV.val {kvs : List (κ × V)} {vs : List (κ × Value)} (r : KV kvs vs) (k : κ) : RelO (valV kvs k) (valueAt vs k) := by
  unfold KV at r
  induction r with
  | nil => exact True.intro
  | @cons p q ps qs h t ih =>
    obtain ⟨h1, h2⟩ := h
    by_cases e : p.1 = k
    · have e' : q.1 = k := h1.symm.trans e
      have b : valueAt (q :: qs) k = some q.2 := by simp [valueAt, List.find?_cons, e']
      rw [valV_pos e, b]; exact h2
    · have e' : ¬ q.1 = k := fun z => e (h1.trans z)
      have b : valueAt (q :: qs) k = valueAt qs k := by simp [valueAt, List.find?_cons, e']
      rw [valV_neg e, b]; exact ih
theorem KV.any {kvs : List (κ × V)} {vs : List (κ × Value)} (r : KV kvs vs) (k : κ) : (kvs.any fun kv => decide (kv.1 = k)) = vs.any fun kv => decide (kv.1 = k) := by
  unfold KV at r
  induction r with
  | nil => rfl
  | cons h t ih => rw [List.any_cons, List.any_cons, ih, h.1]
theorem KV.repl {kvs : List (κ × V)} {vs : List (κ × Value)} (r : KV kvs vs) (k : κ) {y : V} {u : Value} (ry : RelV y u) :
    KV (kvs.map fun kv => if kv.1 = k then (kv.1, y) else kv) (vs.map fun kv => if kv.1 = k then (kv.1, u) else kv) := by
  unfold KV at r ⊢
  induction r with
  | nil => exact .nil
  | @cons p q ps qs h t ih =>
    rw [List.map_cons, List.map_cons]
    refine .cons ?_ ih
    obtain ⟨h1, h2⟩ := h
    by_cases e : p.1 = k
    · rw [if_pos e, if_pos (h1.symm.trans e)]; exact ⟨h1, ry⟩
    · rw [if_neg e, if_neg (fun z => e (h1.trans z))]; exact ⟨h1, h2⟩
theorem KV.put {kvs : List (κ × V)} {vs : List (κ × Value)} (r : KV kvs vs) (k : κ) {y : V} {u : Value} (ry : RelV y u) : KV (putK kvs k y) (stored vs k u) := by
  unfold putK stored
  rw [r.any k]
  by_cases e : (vs.any fun kv => decide (kv.1 = k)) = true
  · rw [if_pos e, if_pos e]; exact r.repl k ry
  · rw [if_neg e, if_neg e]; exact Paired.snoc r ⟨rfl, ry⟩
theorem KV.drop {kvs : List (κ × V)} {vs : List (κ × Value)} (r : KV kvs vs) (k : κ) : KV (dropK kvs k) (without vs k) := by
  unfold KV at r ⊢
  unfold dropK without
  induction r with
  | nil => exact .nil
  | @cons p q ps qs h t ih =>
    obtain ⟨h1, h2⟩ := h
    rw [List.filter_cons, List.filter_cons]
    by_cases e : p.1 = k
    · have a : ¬ decide (p.1 ≠ k) = true := by simp [e]
      have b : ¬ decide (q.1 ≠ k) = true := by simp [h1.symm.trans e]
      rw [if_neg a, if_neg b]; exact ih
    · have e' : ¬ q.1 = k := fun z => e (h1.trans z)
      have a : decide (p.1 ≠ k) = true := by simp [e]
      have b : decide (q.1 ≠ k) = true := by simp [e']
      rw [if_pos a, if_pos b]; exact .cons ⟨h1, h2⟩ ih
theorem KV.keys {kvs : List (κ × V)} {vs : List (κ × Value)} (r : KV kvs vs) : kvs.map (·.1) = vs.map (·.1) := by
  unfold KV at r
  induction r with
  | nil => rfl
  | cons h t ih => rw [List.map_cons, List.map_cons, ih, h.1]
theorem KV.length {kvs : List (κ × V)} {vs : List (κ × Value)} (r : KV kvs vs) : kvs.length = vs.length := Paired.length r
theorem dropK_le (kvs : List (κ × V)) (k : κ) : (dropK kvs k).length ≤ kvs.length := List.length_filter_le _ _
end


/-! ### a tracked dict, its keys ints and texts or tuples of these -/
theorem kV_is {P : Program} {w : World} {k : Key} {u : Value} (r : RelV (kV k) u) : (mixKind P w).is k u = true := by
  cases k with
  | inl i => obtain ⟨t, e⟩ := (show ∃ t, u = Value.int i t from r); subst e; exact mixKind_int P w i t
  | inr x => obtain ⟨t, e⟩ := (show ∃ t, u = Value.str x t from r); subst e; exact mixKind_str P w x t
theorem items_are {P : Program} {w : World} : ∀ {ks : List Key} {us : List Value}, Vals (ks.map kV) us → ItemsAre (mixKind P w) ks us
  | [], _, r => by rw [List.map_nil] at r; cases r; exact .nil
  | k :: ks, _, r => by
    rw [List.map_cons] at r
    cases r with
    | cons h t => exact .cons (kV_is h) (items_are t)

/-- raw entries of a dict with tuple keys -/
abbrev KT (H : Hp) : List (List Key × V) → List (List Key × Addr × Value) → Prop := Paired fun p q => p.1 = q.1 ∧ H q.2.1 = some (.tup (p.1.map kV)) ∧ RelV p.2 q.2.2
theorem KT.val {H : Hp} {kvs : List (List Key × V)} {xs : List (List Key × Addr × Value)} (r : KT H kvs xs) (k : List Key) : RelO (valV kvs k) ((atKey xs k).map (·.2)) := by
  induction r with
  | nil => exact True.intro
  | @cons p q ps qs h t ih =>
    obtain ⟨h1, _, h2⟩ := h
    by_cases e : p.1 = k
    · have e' : q.1 = k := h1.symm.trans e
      have b : atKey (q :: qs) k = some q.2 := by simp [atKey, List.find?_cons, e']
      rw [valV_pos e, b]; exact h2
    · have e' : ¬ q.1 = k := fun z => e (h1.trans z)
      have b : atKey (q :: qs) k = atKey qs k := by simp [atKey, List.find?_cons, e']
      rw [valV_neg e, b]; exact ih
theorem KT.repl {H : Hp} {kvs : List (List Key × V)} {xs : List (List Key × Addr × Value)} (r : KT H kvs xs) (k : List Key) {y : V} {u : Value} (ry : RelV y u) :
    KT H (kvs.map fun kv => if kv.1 = k then (kv.1, y) else kv) (xs.map (putAt k u)) := by
  induction r with
  | nil => exact .nil
  | @cons p q ps qs h t ih =>
    rw [List.map_cons, List.map_cons]
    refine .cons ?_ ih
    obtain ⟨h1, h2, h3⟩ := h
    unfold putAt
    by_cases e : p.1 = k
    · rw [if_pos e, if_pos (h1.symm.trans e)]; exact ⟨h1, h2, ry⟩
    · rw [if_neg e, if_neg (fun z => e (h1.trans z))]; exact ⟨h1, h2, h3⟩
theorem KT.put {H : Hp} {kvs : List (List Key × V)} {xs : List (List Key × Addr × Value)} (r : KT H kvs xs) (k : List Key) {b : Addr} {y : V} {u : Value} (hb : H b = some (.tup (k.map kV))) (ry : RelV y u) :
    KT H (putK kvs k y) (storedH xs k b u) := by
  have e : (kvs.any fun kv => decide (kv.1 = k)) = (atKey xs k).isSome := by
    rw [valV_any, (r.val k).isSome_eq, Option.isSome_map]
  unfold putK storedH
  rw [e]
  by_cases q : (atKey xs k).isSome = true
  · rw [if_pos q, if_pos q]; exact r.repl k ry
  · rw [if_neg q, if_neg q]; exact Paired.snoc r ⟨rfl, hb, ry⟩
theorem KT.keeps {H H' : Hp} {kvs : List (List Key × V)} {xs : List (List Key × Addr × Value)} (r : KT H kvs xs) (ht : ∀ b ys, H b = some (.tup ys) → H' b = some (.tup ys)) : KT H' kvs xs :=
  Paired.mapP r fun _ _ z => ⟨z.1, ht _ _ z.2.1, z.2.2⟩

section
variable {P : Program} {w : World} {H : Hp} {h : Heap} {a : Addr}
theorem rd_of {u : HO} (ok : HOk P w H h) (e : Rd H a u) : ObjOk P w H h a u := e.ok ok
theorem dk_rd {kvs : List (Key × V)} (ok : HOk P w H h) (e : Rd H a (.dK kvs)) : kvs.length ≤ sizeLine ∧ (a == sysModules) = false ∧ ∃ vs, KV kvs vs ∧ h.DictOf (mixKind P w) a vs :=
  show ObjOk P w H h a (.dK kvs) from rd_of ok e
theorem dk_of {kvs : List (Key × V)} (ok : HOk P w H h) (e : H a = some (.dK kvs)) : kvs.length ≤ sizeLine ∧ (a == sysModules) = false ∧ ∃ vs, KV kvs vs ∧ h.DictOf (mixKind P w) a vs := dk_rd ok (.inl e)
/-- a tracked tuple of ints and texts is a key -/
theorem key_of {ks : List Key} (ok : HOk P w H h) (e : H a = some (.tup (ks.map kV))) : (tupleKind (mixKind P w)).is h ks a := by
  obtain ⟨_, its, r, o, h1, h2, n, h3⟩ := (show ObjOk P w H h a (.tup (ks.map kV)) from ok a _ e)
  exact ⟨o, its.toArray, n, h1, h2, h3, by simpa using items_are r⟩
theorem dt_rd {kvs : List (List Key × V)} (ok : HOk P w H h) (e : Rd H a (.dT kvs)) : kvs.length ≤ sizeLine ∧ (a == sysModules) = false ∧
    ∃ xs, KT H kvs xs ∧ h.DictOfH (tupleKind (mixKind P w)) a xs := by
  obtain ⟨z, y, xs, r, o, es, ep, h1, h2, h3, h4, h5⟩ := (show ObjOk P w H h a (.dT kvs) from rd_of ok e)
  refine ⟨z, y, xs, r, o, es, ep, h1, h2, h3, h4, fun x hx => ?_, h5⟩
  have all : ∀ {l : List (List Key × V)} {m : List (List Key × Addr × Value)}, KT H l m → ∀ x ∈ m, (tupleKind (mixKind P w)).is h x.1 x.2.1 := by
    intro l m q
    induction q with
    | nil => intro x hx; exact nomatch hx
    | @cons p q ps qs hq t ih =>
      intro x hx
      rcases List.mem_cons.mp hx with e | hx
      · subst e
        exact key_of ok (by rw [← hq.1]; exact hq.2.1)
      · exact ih x hx
  exact all r x hx
theorem dt_of {kvs : List (List Key × V)} (ok : HOk P w H h) (e : H a = some (.dT kvs)) : kvs.length ≤ sizeLine ∧ (a == sysModules) = false ∧
    ∃ xs, KT H kvs xs ∧ h.DictOfH (tupleKind (mixKind P w)) a xs := dt_rd ok (.inl e)
end

/-- what the dict at a holds at the key y -/
def DGet (H : Hp) (a : Addr) (y : V) (r : Option V) : Prop :=
  (∃ kvs k, Rd H a (.dK kvs) ∧ y = kV k ∧ r = valV kvs k) ∨ ∃ kvs k b, Rd H a (.dT kvs) ∧ y = .ref b ∧ H b = some (.tup (k.map kV)) ∧ r = valV kvs k
/-- the heap behind a[y] = v -/
def DPut (H : Hp) (a : Addr) (y v : V) (H' : Hp) : Prop :=
  (∃ kvs k, H a = some (.dK kvs) ∧ y = kV k ∧ kvs.length < sizeLine ∧ H' = upd H a (.dK (putK kvs k v))) ∨
  ∃ kvs k b, H a = some (.dT kvs) ∧ y = .ref b ∧ H b = some (.tup (k.map kV)) ∧ kvs.length < sizeLine ∧ H' = upd H a (.dT (putK kvs k v))
theorem DGet.k {H : Hp} {a : Addr} {kvs : List (Key × V)} {k : Key} (e : H a = some (.dK kvs)) : DGet H a (kV k) (valV kvs k) := .inl ⟨kvs, k, .inl e, rfl, rfl⟩
theorem DGet.t {H : Hp} {a b : Addr} {kvs : List (List Key × V)} {k : List Key} (e : H a = some (.dT kvs)) (eb : H b = some (.tup (k.map kV))) : DGet H a (.ref b) (valV kvs k) := .inr ⟨kvs, k, b, .inl e, rfl, eb, rfl⟩
theorem DPut.k {H : Hp} {a : Addr} {kvs : List (Key × V)} {k : Key} {v : V} (e : H a = some (.dK kvs)) (hl : kvs.length < sizeLine) : DPut H a (kV k) v (upd H a (.dK (putK kvs k v))) := .inl ⟨kvs, k, e, rfl, hl, rfl⟩
theorem DPut.t {H : Hp} {a b : Addr} {kvs : List (List Key × V)} {k : List Key} {v : V} (e : H a = some (.dT kvs)) (eb : H b = some (.tup (k.map kV))) (hl : kvs.length < sizeLine) :
    DPut H a (.ref b) v (upd H a (.dT (putK kvs k v))) := .inr ⟨kvs, k, b, e, rfl, eb, hl, rfl⟩


section
variable {X : Cx} {pins : List (Addr × Obj)} {σ : St} {H : Hp} {s : Shared} {a : Addr} {y v : V} {u r : Value} {o : Option V} {A : Around} {E : Value → Shared → Prop}

theorem Inv.big (I : Inv X pins σ H s) : sysModules < s.heap.objs.size := by
  have h : mainGlobals < s.heap.objs.size := (I.mod.glob.keeps I.bk).lt
  exact Nat.lt_trans (by decide) h

/-- d[y], there -/
theorem d_getItem {Q : Value → Shared → Prop} (hu : A.units + 1 < cLine) (I : Inv X pins σ H s) (g : DGet H a y (some v)) (ry : RelV y u) (h : ∀ w' s', Inv X pins σ H s' → RelV v w' → Q w' s') :
    wpAny (model X.prog X.w) A (getItem (.ref a) u) Q E s := by
  rcases g with ⟨kvs, k, e, ey, l⟩ | ⟨kvs, k, b, e, ey, eb, l⟩
  · subst ey
    obtain ⟨z, hd, vs, rel, dd⟩ := dk_rd I.hok e
    obtain ⟨w', hw, rw'⟩ := RelO.some_of (v := v) (o := valueAt vs k) (by rw [l]; exact rel.val k)
    exact wpAny_getItem_of (kV_is ry) dd.mapOf hw (h w' _ (I.tok _) rw')
  · subst ey
    cases (show u = Value.ref b from ry)
    obtain ⟨z, hd, xs, rel, dd⟩ := dt_rd I.hok e
    obtain ⟨w', hw, rw'⟩ := RelO.some_of (v := v) (o := (atKey xs k).map (·.2)) (by rw [l]; exact rel.val k)
    obtain ⟨p, hp, hp2⟩ := Option.map_eq_some_iff.mp hw
    refine wpAny_getItem_heap (tupleKind_room_in1 hu) (key_of I.hok eb) dd hp ?_
    rw [hp2]
    exact h w' _ (I.tok _) rw'
/-- y in d -/
theorem d_in {Q : Value → Shared → Prop} (hu : A.units + 1 < cLine) (I : Inv X pins σ H s) (g : DGet H a y o) (ry : RelV y u) (h : ∀ s', Inv X pins σ H s' → Q (.bool o.isSome) s') :
    wpAny (model X.prog X.w) A (compareOp .In u (.ref a)) Q E s := by
  rcases g with ⟨kvs, k, e, ey, l⟩ | ⟨kvs, k, b, e, ey, eb, l⟩
  · subst ey
    obtain ⟨z, hd, vs, rel, dd⟩ := dk_rd I.hok e
    refine wpAny_in_of (kV_is ry) hd dd.mapOf ?_
    rw [← (rel.val k).isSome_eq, ← l]
    exact h _ (I.tok _)
  · subst ey
    cases (show u = Value.ref b from ry)
    obtain ⟨z, hd, xs, rel, dd⟩ := dt_rd I.hok e
    refine wpAny_in_heap (tupleKind_room_in1 hu) (key_of I.hok eb) hd dd ?_
    have q := (rel.val k).isSome_eq
    rw [Option.isSome_map] at q
    rw [← q, ← l]
    exact h _ (I.tok _)
theorem d_notIn {Q : Value → Shared → Prop} (hu : A.units + 1 < cLine) (I : Inv X pins σ H s) (g : DGet H a y o) (ry : RelV y u) (h : ∀ s', Inv X pins σ H s' → Q (.bool (!o.isSome)) s') :
    wpAny (model X.prog X.w) A (compareOp .NotIn u (.ref a)) Q E s := by
  rcases g with ⟨kvs, k, e, ey, l⟩ | ⟨kvs, k, b, e, ey, eb, l⟩
  · subst ey
    obtain ⟨z, hd, vs, rel, dd⟩ := dk_rd I.hok e
    refine wpAny_notIn_of (kV_is ry) hd dd.mapOf ?_
    rw [← (rel.val k).isSome_eq, ← l]
    exact h _ (I.tok _)
  · subst ey
    cases (show u = Value.ref b from ry)
    obtain ⟨z, hd, xs, rel, dd⟩ := dt_rd I.hok e
    refine wpAny_notIn_heap (tupleKind_room_in1 hu) (key_of I.hok eb) hd dd ?_
    have q := (rel.val k).isSome_eq
    rw [Option.isSome_map] at q
    rw [← q, ← l]
    exact h _ (I.tok _)
/-- a dict's object is replaced -/
theorem d_write {h' : Heap} {t' : Nat} {ob : HO} (I : Inv X pins σ H s) (mu : Mut (H a)) (hs : Heap.SameBut a s.heap h') (he : ∃ q, h'.get? a = some q) (new : ObjOk X.prog X.w (upd H a ob) h' a ob) :
    Inv X pins σ (upd H a ob) { s with heap := h', toks := t' } :=
  I.write (x := a) (e := a) mu (.inl rfl) (fun b q hb z => (hs.2 b hb).trans z) he new
theorem dk_new {P : Program} {w : World} {H' : Hp} {h' : Heap} {kvs : List (Key × V)} {vs : List (Key × Value)} (z : kvs.length ≤ sizeLine) (hd : (a == sysModules) = false) (rel : KV kvs vs) (dd : h'.DictOf (mixKind P w) a vs) :
    ObjOk P w H' h' a (.dK kvs) := ⟨z, hd, vs, rel, dd⟩
/-- d[y] = v -/
theorem d_setItem {H' : Hp} {Q : Unit → Shared → Prop} (hu : A.units + 1 < cLine) (I : Inv X pins σ H s) (g : DPut H a y v H') (ry : RelV y u) (rv : RelV v r) (h : ∀ s', Inv X pins σ H' s' → Q () s') :
    wpAny (model X.prog X.w) A (setItem (.ref a) u r) Q E s := by
  rcases g with ⟨kvs, k, e, ey, l, eH⟩ | ⟨kvs, k, b, e, ey, eb, l, eH⟩
  · subst ey eH
    obtain ⟨z, hd, vs, rel, dd⟩ := dk_of I.hok e
    have hz : vs.length ≤ sizeLine := by rw [← rel.length]; exact z
    have hl : (putK kvs k v).length ≤ sizeLine := by have := length_putK kvs k v; omega
    refine wpAny_setItem_pairs (hsz := hz) (kV_is ry) dd fun h' dd' hs => h _ ?_
    have he : ∃ q, h'.get? a = some q := let ⟨q, _, _, hq, _⟩ := dd'; ⟨q, hq⟩
    exact d_write I (by rw [e]; exact True.intro) hs he (dk_new hl hd (rel.put k rv) dd')
  · subst ey eH
    cases (show u = Value.ref b from ry)
    obtain ⟨z, hd, xs, rel, dd⟩ := dt_of I.hok e
    have hz : xs.length ≤ sizeLine := by rw [← Paired.length rel]; exact z
    have hl : (putK kvs k v).length ≤ sizeLine := by have := length_putK kvs k v; omega
    refine wpAny_setItem_heap (hsz := hz) (tupleKind_room_in1 hu) (key_of I.hok eb) dd fun h' dd' hs => h _ ?_
    obtain ⟨q, es, ep, hq, h2, h3, h4, _, h5⟩ := dd'
    refine d_write I (by rw [e]; exact True.intro) hs ⟨q, hq⟩ ⟨hl, hd, _, (rel.put k eb rv).keeps fun c ys ec => ?_, q, es, ep, hq, h2, h3, h4, h5⟩
    rw [upd_ne (ne_of ec e (fun z => nomatch z))]
    exact ec
end

section
variable {X : Cx} {pins : List (Addr × Obj)} {σ : St} {H : Hp} {s : Shared} {a : Addr} {kvs : List (Key × V)} {k : Key} {u : Value} {A : Around} {E : Value → Shared → Prop}
/-- d.pop(k[, x]), there -/
theorem d_pop {v : V} {more : List Value} {Q : Value → Shared → Prop} (I : Inv X pins σ H s) (e : H a = some (.dK kvs)) (ry : RelV (kV k) u) (l : valV kvs k = some v) (hm : more = [] ∨ ∃ x, more = [x])
    (h : ∀ w' s', Inv X pins σ (upd H a (.dK (dropK kvs k))) s' → RelV v w' → Q w' s') : wpAny (model X.prog X.w) A (call (.builtin "dict.pop") (.ref a :: u :: more)) Q E s := by
  obtain ⟨z, hd, vs, rel, dd⟩ := dk_of I.hok e
  obtain ⟨w', hw, rw'⟩ := RelO.some_of (v := v) (o := valueAt vs k) (by rw [← l]; exact rel.val k)
  have hp : (keyPart u).isSome = true := by
    cases k with
    | inl i => obtain ⟨t, q⟩ := (show ∃ t, u = Value.int i t from ry); subst q; rfl
    | inr x => obtain ⟨t, q⟩ := (show ∃ t, u = Value.str x t from ry); subst q; rfl
  have ha : argsOk "dict.pop" ⟨.ref a :: u :: more, []⟩ := by
    rcases hm with q | ⟨x, q⟩
    · subst q; exact PySem.F.args_dict_pop_2 _ _
    · subst q; exact PySem.F.args_dict_pop_3 _ _ _
  refine call_meetsIn PySem.F.slot_dict_pop dd.typeIs PySem.F.entry_dict_pop ha (meets_dict_pop_there (mixKind X.prog X.w) a (kV_is ry) more hm hp)
    ⟨vs, w', dd, by rw [← rel.length]; exact z, hw, fun h' dd' hs => h w' _ ?_ rw'⟩
  have he : ∃ q, h'.get? a = some q := let ⟨q, _, _, hq, _⟩ := dd'; ⟨q, hq⟩
  exact d_write I (by rw [e]; exact True.intro) hs he (dk_new (Nat.le_trans (dropK_le kvs k) z) hd (rel.drop k) dd')
end


/-! ### readings and rules -/
/-- the element of a subscription, not a slice -/
def NoSl (i : Expr) : Prop := ∀ ov iv, subscripted i false ov iv = operate [ov, iv] (getItem ov iv)
theorem subD_of {prog : Program} {w : World} {A : Around} {E : Value → Shared → Prop} {s : Shared} {env : Env} {value slice : Expr} {pos : Pos} {T id : String} {Q : Value → Shared → Prop}
    (hl : typeLookup (.type T) "__getitem__" = pure (some (.builtin id))) (hs : NoSl slice)
    (h : wpAny (model prog w) A (eval value env) (fun o s₁ => wpAny (model prog w) A (eval slice env) (fun i s₂ => s₂.TypeIs o T ∧ wpAny (model prog w) A (getItem o i) Q E s₂) E s₁) E s) :
    wpAny (model prog w) A (eval (.Subscript value slice pos) env) Q E s := by
  refine Subscript_ (wpAny_mono h (fun o s₁ h₁ => wpAny_mono h₁ (fun i s₂ h₂ => ?_) fun _ _ x => x) fun _ _ x => x)
  obtain ⟨hT, h₂⟩ := h₂
  unfold subscriptTail
  refine wpAny_bind ?_
  rw [getitemInPython_of_ne hT.not_modules]
  refine wpAny_bind (wpAny_specialOf hT hl ?_)
  have fin : wpAny (model prog w) A (subscripted slice false o i) (fun r s₃ => wpAny (model prog w) A (letTemporaryGo value o r >>= fun _ => pure r) Q E s₃) E s₂ := by
    rw [hs o i]
    exact wpAny_operating (wpAny_mono h₂ (fun r s₃ h₃ => wpAny_bind (wpAny_letTemporaryGo (wpAny_pure h₃))) fun _ _ x => x)
  first
    | exact wpAny_pure (wpAny_bind fin)
    | exact wpAny_bind (wpAny_pure (wpAny_bind fin))
    | exact wpAny_bind fin

theorem dict_typeIs {X : Cx} {pins : List (Addr × Obj)} {σ : St} {H : Hp} {s : Shared} {a : Addr} {y : V} {o : Option V} (I : Inv X pins σ H s) (g : DGet H a y o) : s.TypeIs (.ref a) "dict" := by
  rcases g with ⟨kvs, k, e, _, _⟩ | ⟨kvs, k, b, e, _, _, _⟩
  · obtain ⟨_, _, vs, _, dd⟩ := dk_rd I.hok e
    exact dd.typeIs
  · obtain ⟨_, _, xs, _, dd⟩ := dt_rd I.hok e
    exact dd.typeIs
/-- d[y] -/
def tDGet (td ty : TE) : TE := fun σ H Q => td σ H fun x H1 => ty σ H1 fun y H2 => ∃ a v, x = .ref a ∧ DGet H2 a y (some v) ∧ Q v H2
/-- y in d, y not in d -/
def tDIn (ty td : TE) : TE := fun σ H Q => ty σ H fun y H1 => td σ H1 fun x H2 => ∃ a o, x = .ref a ∧ DGet H2 a y o ∧ Q (.bl o.isSome) H2
def tDNotIn (ty td : TE) : TE := fun σ H Q => ty σ H fun y H1 => td σ H1 fun x H2 => ∃ a o, x = .ref a ∧ DGet H2 a y o ∧ Q (.bl (!o.isSome)) H2
/-- d[y] = v -/
def sDPut (td ty tv : TE) : TS := fun D σ H => tv σ H fun v H1 => td σ H1 fun x H2 => ty σ H2 fun y H3 => ∃ a H4, x = .ref a ∧ DPut H3 a y v H4 ∧ D.nx σ H4
/-- d[y] op= v -/
def sDAug (td ty tv : TE) (rd : V → V → Hp → VK → Prop) : TS := fun D σ H => td σ H fun x H1 => ty σ H1 fun y H2 => ∃ a v, x = .ref a ∧ DGet H2 a y (some v) ∧
  tv σ H2 fun y2 H3 => rd v y2 H3 fun z H4 => ∃ H5, DPut H4 a y z H5 ∧ D.nx σ H5
/-- del d[y] -/
def sDDel (td ty : TE) : TS := fun D σ H => td σ H fun x H1 => ty σ H1 fun y H2 => ∃ a kvs k, x = .ref a ∧ H2 a = some (.dK kvs) ∧ y = kV k ∧ (valV kvs k).isSome = true ∧ D.nx σ (upd H2 a (.dK (dropK kvs k)))

section
variable {X : Cx} {o i e value : Expr} {pos pos' tpos : Pos} {td ty tv : TE}
theorem pe_dget (hu : X.A.units + 1 < cLine) (ho : PE X o td) (hi : PE X i ty) (hs : NoSl i) : PE X (.Subscript o i pos) (tDGet td ty) := by
  intro pins s σ H Q I h
  refine subD_of PySem.F.slot_dict_getitem.lookup hs (thn (ho pins s σ H _ I h) fun u s1 ⟨x, H1, I1, rx, q1⟩ => thn (hi pins s1 σ H1 _ I1 q1) fun iv s2 ⟨y, H2, I2, ry, a, v, ex, g, q2⟩ => ?_)
  subst ex
  obtain rfl : u = Value.ref a := rx
  exact ⟨dict_typeIs I2 g, d_getItem hu I2 g ry fun w' s3 I3 rw' => ⟨v, H2, I3, rw', q2⟩⟩
theorem ps_dput (hu : X.A.units + 1 < cLine) (ho : PE X o td) (hi : PE X i ty) (hv : PE X value tv) (hs : swapsWith value (some (.Subscript o i pos')) pos.line X.env = pure false) :
    PS X (.Assign [.Subscript o i pos'] value pos) (sDPut td ty tv) := by
  intro pins s σ H D I h
  refine wpAny_Assign_Subscript (thn (hv pins s σ H _ I h) fun r s1 ⟨v, H1, I1, rv, q1⟩ => thn (ho pins s1 σ H1 _ I1 q1) fun u s2 ⟨x, H2, I2, rx, q2⟩ => thn (hi pins s2 σ H2 _ I2 q2) fun iv s3 ⟨y, H3, I3, ry, a, H4, ex, g, q3⟩ => ?_) hs
  subst ex
  obtain rfl : u = Value.ref a := rx
  exact d_setItem hu I3 g ry rv fun s4 I4 => ⟨σ, H4, I4, q3⟩
end


/-! ### displays -/
theorem dk_empty {P : Program} {w : World} {H : Hp} (h : Heap) (hb : sysModules < h.objs.size) : ObjOk P w H (h.push { cls := .type "dict", data := .dict #[] }) h.objs.size (.dK []) :=
  ⟨Nat.zero_le _, beq_eq_false_iff_ne.mpr (Ne.symm (Nat.ne_of_lt hb)), [], .nil, Heap.DictOf.new h⟩
/-- {}, to be a dict of the kind that is wanted -/
def tDNewK : TE := fun _ H Q => ∀ p, H p = none → Q (.ref p) (upd H p (.dK []))
def tDNewT : TE := fun _ H Q => ∀ p, H p = none → Q (.ref p) (upd H p (.dT []))
section
variable {X : Cx} {pos : Pos}
theorem pe_dnewK : PE X (.Dict [] [] pos) tDNewK := fun pins s σ H Q I h =>
  wpAny_Dict_empty ⟨.ref s.heap.objs.size, _, I.laid (a := s.heap.objs.size) (o := .dK []) (t' := s.toks) (fun _ _ q => Heap.get?_push_of_some _ q) (Nat.le_refl _) (dk_empty s.heap I.big), rfl, h _ (I.hok.fresh (Nat.le_refl _))⟩
end

/-- the pairs of a display, from the left -/
def tPairs : List (TE × TE) → St → Hp → (List (V × V) → Hp → Prop) → Prop
  | [], _, H, Q => Q [] H
  | (tk, tv) :: r, σ, H, Q => tk σ H fun x H1 => tv σ H1 fun y H2 => tPairs r σ H2 fun ps H3 => Q ((x, y) :: ps) H3
abbrev VV : List (V × V) → List (Value × Value) → Prop := Paired fun p q => RelV p.1 q.1 ∧ RelV p.2 q.2
def PPs (X : Cx) (pos : Pos) (keys : List (Option Expr)) (values : List Expr) (trs : List (TE × TE)) : Prop :=
  ∀ (pins : List (Addr × Obj)) (s : Shared) (σ : St) (H : Hp) (Q : List (V × V) → Hp → Prop), Inv X pins σ H s → tPairs trs σ H Q →
    wpAny (model X.prog X.w) X.A (evalPairs (pairTrees keys values X.env pos)) (fun vs s' => ∃ ps H', Inv X pins σ H' s' ∧ VV ps vs ∧ Q ps H') X.xe s
def mergeK (kvs more : List (Key × V)) : List (Key × V) := more.foldl (fun acc kv => putK acc kv.1 kv.2) kvs
/-- {k: v, ..} with keys ints and texts; the new dict stands empty while the pairs are made -/
def tDisp (trs : List (TE × TE)) : TE := fun σ H Q => ∀ p, H p = none → tPairs trs σ (upd H p (.dK [])) fun ps H2 => H2 p = some (.dK []) ∧ ∃ kvs : List (Key × V), ps = kvs.map (fun kv => (kV kv.1, kv.2)) ∧ kvs.length ≤ 15 ∧ Q (.ref p) (upd H2 p (.dK (mergeK [] kvs)))
/-! ### methods -/
/-- a method call o.m(e) of a built-in, with one argument: what must be seen of the text -/
structure M1 (X : Cx) (o : Expr) (m : Str) (apos : Pos) (e : Expr) (cpos : Pos) : Prop where
  base : attributeBase o m X.env (eval o X.env) = eval o X.env
  few : ((backTo cpos (starEach [e] X.env)).all (fun x => !x.1) && (backToKw cpos (keywordEach [] X.env)).all (fun x => x.1.isSome)
    && decide (([e] : List Expr).length + ([] : List Keyword).length + (if ([] : List Keyword).isEmpty then 0 else 1) < 30)) = true
  line : (apos.endLine == cpos.line) = true
  trees : backTo cpos (starEach [e] X.env) = [(false, eval e X.env)]
structure M2 (X : Cx) (o : Expr) (m : Str) (apos : Pos) (e f : Expr) (cpos : Pos) : Prop where
  base : attributeBase o m X.env (eval o X.env) = eval o X.env
  few : ((backTo cpos (starEach [e, f] X.env)).all (fun x => !x.1) && (backToKw cpos (keywordEach [] X.env)).all (fun x => x.1.isSome)
    && decide (([e, f] : List Expr).length + ([] : List Keyword).length + (if ([] : List Keyword).isEmpty then 0 else 1) < 30)) = true
  line : (apos.endLine == cpos.line) = true
  trees : backTo cpos (starEach [e, f] X.env) = [(false, eval e X.env), (false, eval f X.env)]

/-- a is a dict, whatever its keys -/
def IsD (H : Hp) (a : Addr) : Prop := (∃ kvs, Rd H a (.dK kvs)) ∨ ∃ kvs, Rd H a (.dT kvs)
theorem isD_at {X : Cx} {pins : List (Addr × Obj)} {σ : St} {H : Hp} {s : Shared} {a : Addr} (I : Inv X pins σ H s) (d : IsD H a) :
    s.TypeIs (.ref a) "dict" ∧ (∀ b, Value.ref a = .ref b → ∃ ob, s.heap.get? b = some ob ∧ ob.dict = none) ∧ (a == sysModules) = false := by
  rcases d with ⟨kvs, e⟩ | ⟨kvs, e⟩
  · obtain ⟨_, hd, vs, _, dd⟩ := dk_rd I.hok e
    refine ⟨dd.typeIs, fun b q => ?_, hd⟩
    cases q
    obtain ⟨ob, _, _, h1, h2, _⟩ := dd
    exact ⟨ob, h1, h2.2.1⟩
  · obtain ⟨_, hd, xs, _, dd⟩ := dt_rd I.hok e
    refine ⟨dd.typeIs, fun b q => ?_, hd⟩
    cases q
    obtain ⟨ob, _, _, h1, h2, _⟩ := dd
    exact ⟨ob, h1, h2.2.1⟩

section
variable {X : Cx} {pins : List (Addr × Obj)} {σ : St} {H : Hp} {s : Shared} {a : Addr} {y d : V} {u r : Value} {o : Option V} {A : Around} {E : Value → Shared → Prop}
/-- d.get(y, x) -/
theorem d_get2 {Q : Value → Shared → Prop} (hu : A.units + 1 < cLine) (I : Inv X pins σ H s) (g : DGet H a y o) (ry : RelV y u) (rd : RelV d r) (h : ∀ w' s', Inv X pins σ H s' → RelV (o.getD d) w' → Q w' s') :
    wpAny (model X.prog X.w) A (call (.builtin "dict.get") [.ref a, u, r]) Q E s := by
  rcases g with ⟨kvs, k, e, ey, l⟩ | ⟨kvs, k, b, e, ey, eb, l⟩
  · subst ey
    obtain ⟨z, hd, vs, rel, dd⟩ := dk_rd I.hok e
    refine call_meetsIn PySem.F.slot_dict_get dd.typeIs PySem.F.entry_dict_get (PySem.F.args_dict_get_3 _ _ _) (meets_dict_get_default (mixKind X.prog X.w) a (kV_is ry) hd r) ⟨_, dd.mapOf, h _ _ (I.tok _) ?_⟩
    rw [l]
    exact (rel.val k).getD rd
  · subst ey
    cases (show u = Value.ref b from ry)
    obtain ⟨z, hd, xs, rel, dd⟩ := dt_rd I.hok e
    refine call_meetsIn PySem.F.slot_dict_get dd.typeIs PySem.F.entry_dict_get (PySem.F.args_dict_get_3 _ _ _) (meetsH_dict_get_default (tupleKind (mixKind X.prog X.w)) a b hd r) ⟨tupleKind_room_in1 hu, k, xs, key_of I.hok eb, dd, h _ _ (I.tok _) ?_⟩
    rw [l]
    exact (rel.val k).getD rd
end

def tDGet1 (td ty : TE) : TE := fun σ H Q => td σ H fun x H1 => ∃ a, x = .ref a ∧ IsD H1 a ∧ ty σ H1 fun y H2 => ∃ o, DGet H2 a y o ∧ Q (o.getD .non) H2
def tDGet2 (td ty tx : TE) : TE := fun σ H Q => td σ H fun x H1 => ∃ a, x = .ref a ∧ IsD H1 a ∧ ty σ H1 fun y H2 => tx σ H2 fun z H3 => ∃ o, DGet H3 a y o ∧ Q (o.getD z) H3
/-- d.pop(k): there; d.pop(k, x): there or not -/
def tDPop1 (td ty : TE) : TE := fun σ H Q => td σ H fun x H1 => ∃ a, x = .ref a ∧ IsD H1 a ∧ ty σ H1 fun y H2 => ∃ kvs k v, H2 a = some (.dK kvs) ∧ y = kV k ∧ valV kvs k = some v ∧ Q v (upd H2 a (.dK (dropK kvs k)))
def tDPop2 (td ty tx : TE) : TE := fun σ H Q => td σ H fun x H1 => ∃ a, x = .ref a ∧ IsD H1 a ∧ ty σ H1 fun y H2 => tx σ H2 fun z H3 => ∃ kvs k, H3 a = some (.dK kvs) ∧ y = kV k ∧
  (∀ v, valV kvs k = some v → Q v (upd H3 a (.dK (dropK kvs k)))) ∧ (valV kvs k = none → Q z H3)
section
variable {X : Cx} {o e f : Expr} {apos cpos : Pos} {td ty tx : TE}
theorem pe_dget2 (hu : X.A.units + 1 < cLine) (ho : PE X o td) (he : PE X e ty) (hf : PE X f tx) (m : M2 X o "get" apos e f cpos) : PE X (.Call (.Attribute o "get" apos) [e, f] [] cpos) (tDGet2 td ty tx) := by
  intro pins s σ H Q I h
  refine wpAny_Call_method m.base m.few m.line PySem.F.plainAttrs_dict PySem.F.slot_dict_get PySem.F.type_dict_get (thn (ho pins s σ H _ I h) fun u s1 ⟨x, H1, I1, rx, a, ex, d, q1⟩ => ?_)
  subst ex
  obtain rfl : u = Value.ref a := rx
  obtain ⟨t1, t2, _⟩ := isD_at I1 d
  refine ⟨t1, t2, ?_⟩
  rw [m.trees]
  refine Calls.callWith_builtin rfl (Calls.evalArgs_plain (Calls.spliced_cons (thn (he pins s1 σ H1 _ I1 q1) fun iv s2 ⟨y, H2, I2, ry, q2⟩ =>
    Calls.spliced_cons (thn (hf pins s2 σ H2 _ I2 q2) fun fv s3 ⟨z, H3, I3, rz, ov, g, q3⟩ => Calls.spliced_nil ?_))))
  exact d_get2 hu I3 g ry rz fun w' s4 I4 rw' => ⟨_, H3, I4, rw', q3⟩
theorem pe_dpop1 (ho : PE X o td) (he : PE X e ty) (m : M1 X o "pop" apos e cpos) : PE X (.Call (.Attribute o "pop" apos) [e] [] cpos) (tDPop1 td ty) := by
  intro pins s σ H Q I h
  refine wpAny_Call_method m.base m.few m.line PySem.F.plainAttrs_dict PySem.F.slot_dict_pop PySem.F.type_dict_pop (thn (ho pins s σ H _ I h) fun u s1 ⟨x, H1, I1, rx, a, ex, d, q1⟩ => ?_)
  subst ex
  obtain rfl : u = Value.ref a := rx
  obtain ⟨t1, t2, _⟩ := isD_at I1 d
  refine ⟨t1, t2, ?_⟩
  rw [m.trees]
  refine Calls.callWith_builtin rfl (Calls.evalArgs_plain (Calls.spliced_cons (thn (he pins s1 σ H1 _ I1 q1) fun iv s2 ⟨y, H2, I2, ry, kvs, k, v, ea, ey, l, q2⟩ => Calls.spliced_nil ?_)))
  subst ey
  exact d_pop I2 ea ry l (.inl rfl) fun w' s3 I3 rw' => ⟨v, _, I3, rw', q2⟩
end

/-! ### dict(d): a copy -/
section
variable {X : Cx} {pins : List (Addr × Obj)} {σ : St} {H : Hp} {s : Shared} {a : Addr} {kvs : List (Key × V)} {A : Around} {E : Value → Shared → Prop}
theorem d_copyOf {Q : Value → Shared → Prop} (I : Inv X pins σ H s) (e : Rd H a (.dK kvs)) (h : ∀ p s', H p = none → Inv X pins σ (upd H p (.dK kvs)) s' → Q (.ref p) s') : wpAny (model X.prog X.w) A (call (.type "dict") [.ref a]) Q E s := by
  obtain ⟨z, hd, vs, rel, dd⟩ := dk_rd I.hok e
  refine kt_call_dict hd dd (by rw [← rel.length]; exact z) fun h' dd' hs => ?_
  refine h _ _ (I.hok.fresh (Nat.le_refl _)) (I.laid (a := s.heap.objs.size) (o := .dK kvs) (t' := s.toks) (fun b q hq => ?_) (Nat.le_refl _) (dk_new z (beq_eq_false_iff_ne.mpr (Ne.symm (Nat.ne_of_lt I.big))) rel dd'))
  exact (hs.2 b (Nat.ne_of_lt (Heap.lt_size hq))).trans (Heap.get?_push_of_some _ hq)
end


section
variable {X : Cx} {pins : List (Addr × Obj)} {σ : St} {H : Hp} {s : Shared} {a : Addr} {y : V} {u : Value} {A : Around} {E : Value → Shared → Prop}
end
end L2


set_option Elab.async false
set_option linter.all false
set_option maxRecDepth 100000
set_option maxHeartbeats 4000000
namespace L2
open PySem PySem.Spec PyProof.Rows

/-! ### a text walked sign by sign -/
def Its (x : Str) : It := ⟨fun i _ => i < x.cps.size, fun i H v H' => H' = H ∧ ∃ c, x.cps[i]? = some c ∧ v = .str ⟨#[c]⟩, fun i _ => i = x.cps.size⟩
section
variable {X : Cx} {tg : Expr}
def iStr (tl : TE) : TI := fun σ H R => tl σ H fun x H1 => ∃ z, x = .str z ∧ R (Its z) H1
end

/-! ### a list comprehension: one for with a name, no test or one -/
def pick (ix : List Nat) (σ : St) : St := ix.map fun i => (σ[i]?).join
def closOf (scope : Scope) (env : Env) : List (Str × Addr) := scope.names.foldl (fun cs y => if y.2 == .free then (y.1, (env.cells.lookup y.1).getD 0) :: cs else cs) []
/-- a comprehension's scope: its own names, nothing bound in it is seen by others -/
structure LcScope (scope : Scope) (x : Str) (fv : List Str) (osc : Scope) : Prop where
  kind : scope.kind = .function
  nocell : ∀ y ∈ scope.names, y.2 ≠ .cell
  names : ∀ y ∈ scope.names, y.2 = .local → scope.names.lookup y.1 = some .local
  tgt : scope.names.lookup x = some .local
  free : ∀ y ∈ scope.names, y.2 = .free → osc.names.lookup y.1 = some .cell ∨ osc.names.lookup y.1 = some .free
  fvs : ∀ y ∈ fv, scope.names.lookup y = some .free
  nd : (x :: fv).Nodup

/-- the context of a comprehension's block -/
def Cx.comp (X : Cx) (scope : Scope) (N' : List Str) (C : Addr) (s₀ : Shared) (H₀ : Hp) (ex : List Addr) : Cx where
  prog := X.prog
  w := X.w
  K := X.K
  mg := X.mg
  base := X.base
  A := X.A
  N := N'
  s₀ := s₀
  H₀ := H₀
  env := compEnvC scope (closOf scope X.env) C X.env
  outer := X.stack
  stack := X.stack
  ex := ex
  fn := fun _ => false
  calm := X.calm
  pn := []
  xe := fun _ _ => False

/-- the tests of a comprehension's for -/
def PIfs (X : Cx) (ifs : List Expr) (t : TT) : Prop :=
  ∀ (pins : List (Addr × Obj)) (s : Shared) (σ : St) (H : Hp) (Q : Bool → Hp → Prop), Inv X pins σ H s → t σ H Q →
    wpAny (model X.prog X.w) X.A (forIn ifs true fun c r => if r = true then do let ok ← isTrue c X.env (eval c X.env); pure (ForInStep.yield ok) else pure (ForInStep.yield r)) (TP X pins σ Q) X.xe s
def tYes : TT := fun _ H Q => Q true H
/-- W: the invariant by the turn, a measure, the items so far -/
def LcW (J : It) (ix : List Nat) (σ : St) (tt : TT) (te : TE) (Q : VK) (H1 : Hp) : Prop := ∃ W : Nat → Nat → List V → Hp → Prop, (∃ m, W 0 m [] H1) ∧ ∀ i m ys H2, W i m ys H2 →
  (J.stop i H2 ∧ ∀ D, H2 D = none → Q (.ref D) (upd H2 D (.lst ys))) ∨
  (J.go i H2 ∧ ys.length < sizeLine ∧ ∀ x H3, J.yld i H2 x H3 → tt (some x :: pick ix σ) H3 fun b H4 => if b = true then te (some x :: pick ix σ) H4 fun y H5 => ∃ m', m' < m ∧ W (i + 1) m' (ys ++ [y]) H5 else ∃ m', m' < m ∧ W (i + 1) m' ys H4)
def tLC (ix : List Nat) (wi : TI) (tt : TT) (te : TE) : TE := fun σ H Q => wi σ H fun J H1 => LcW J ix σ tt te Q H1

section
variable {X : Cx} {scope : Scope} {x : Str} {fv : List Str} {ix : List Nat}
theorem LcScope.cells (S : LcScope scope x fv X.env.scope) (ok : X.Ok) : ∀ y ∈ scope.names, y.2 = .free → ∃ c, X.env.cells.lookup y.1 = some c := fun y hy hf => by
  rcases S.free y hy hf with e | e
  · exact ok.has y.1 (.inl e)
  · exact ok.has y.1 (.inr e)
end
end L2

set_option Elab.async false
set_option linter.all false
set_option maxRecDepth 100000
set_option maxHeartbeats 4000000
namespace L2
open PySem PySem.Spec PyProof.Rows
section
variable {X : Cx} {scope : Scope} {x : Str} {fv : List Str} {ix : List Nat}
def lobj (its : List Value) (n : Nat) : Obj := { cls := .type "list", data := .seq its.toArray n }
end

/-! ### the forms one uses: the items are known, the elements leave the heap as it is -/
section
variable {Q : VK} {ix : List Nat} {tt : TT} {te : TE} {σ : St} {H : Hp}
end
end L2

set_option Elab.async false
set_option linter.all false
set_option maxRecDepth 100000
set_option maxHeartbeats 4000000
namespace L2
open PySem PySem.Spec PyProof.Rows
section
variable {X : Cx} {a b : Expr} {ta tb : TE} {pos : Pos}
/-! ### is, is not of truths -/
theorem op_is_bl : OpR X (compareOp .Is) (fun x y H Q => ∃ i j, x = .bl i ∧ y = .bl j ∧ Q (.bl (i == j)) H) := by
  intro pins s σ H x y v u Q I rx ry h
  obtain ⟨i, j, rfl, rfl, q⟩ := h
  cases rx
  cases ry
  exact is_bool ⟨.bl (i == j), H, I, rfl, q⟩
theorem op_isnot_bl : OpR X (compareOp .IsNot) (fun x y H Q => ∃ i j, x = .bl i ∧ y = .bl j ∧ Q (.bl (i != j)) H) := by
  intro pins s σ H x y v u Q I rx ry h
  obtain ⟨i, j, rfl, rfl, q⟩ := h
  cases rx
  cases ry
  exact isnot_bool ⟨.bl (i != j), H, I, rfl, q⟩
/-! ### texts -/
theorem op_mul_str : OpR X (binaryOp .Mult) (fun x y H Q => ∃ z n, x = .str z ∧ y = .int n ∧ MulOk z n ∧ Q (.str (Txt.mul z n)) H) := by
  intro pins s σ H x y v u Q I rx ry h
  obtain ⟨z, n, rfl, rfl, hm, q⟩ := h
  obtain ⟨t, rfl⟩ := rx
  obtain ⟨t', rfl⟩ := ry
  exact SB.mul hm fun t' k => ⟨.str (Txt.mul z n), H, I.tok _, ⟨_, rfl⟩, q⟩
def rSlS : V → Option Int → Option Int → Hp → VK → Prop := fun x lo hi H Q => ∃ z, x = .str z ∧ z.length ≤ sizeLine ∧ Q (.str (Txt.slice z lo hi)) H
theorem part_opt {v : Value} {o : Option Int} (p : IsPart v o) : ∃ l : Option (Int × Tok), v = partValue l ∧ l.map (·.1) = o := by
  cases p with
  | none => exact ⟨none, rfl, rfl⟩
  | int i t => exact ⟨some (i, t), rfl, rfl⟩
theorem sl_str : SlR X rSlS := by
  intro pins s σ H x v vl vu lo hi sl Q I rx hs pl pu h
  obtain ⟨z, rfl, hz, q⟩ := h
  obtain ⟨t, rfl⟩ := rx
  obtain ⟨l, rfl, el⟩ := part_opt pl
  obtain ⟨u, rfl, eu⟩ := part_opt pu
  subst el eu
  refine ⟨"str", _, F.slot_str_getitem.lookup, typeIs_str _ _ _, wpAny_getItem_str_slice (l := l) (u := u) (st := none) hs rfl ?_⟩
  exact post_val_or_str ⟨Nat.le_trans (Txt.slice_le z _ _) hz, fun t' k => ⟨.str (Txt.slice z (l.map (·.1)) (u.map (·.1))), H, I.tok _, ⟨_, rfl⟩, q⟩⟩
/-! ### all of a list of truths -/
/-! ### isinstance of a built-in class -/
theorem call_isinst : CallR X (.builtin "isinstance") (fun xs H Q => ∃ x T t b, xs = [x, .ty T] ∧ TyOf X.K H x t ∧ PySem.W.kitOne X.K t (.type T) = some b ∧ Q (.bl b) H) := by
  intro pins s σ H xs us Q I r h
  obtain ⟨x, T, t, b, rfl, ty, hk, q⟩ := h
  obtain ⟨u, w', rfl, ru, rw'⟩ := vals2 r
  cases (show w' = Value.type T from rw')
  exact isinst_ok I ru ty hk fun tk => ⟨.bl b, H, I.tok tk, rfl, q⟩
end
end L2

set_option Elab.async false
set_option linter.all false
set_option maxRecDepth 100000
set_option maxHeartbeats 4000000
namespace L2
open PySem PySem.Spec PyProof.Rows
/-! ### a def of the top, by its name -/
structure Fn (K : PySem.W.Frag) (mg : Str → Option Value) (x : Str) (st : Stmt) (ps : List Str) (f : Addr) (fd : FuncData) : Prop where
  fu : Fun K x x st f fd
  mgx : mg x = some (.ref f)
  bd : Binds K fd ps []
def HasFn (K : PySem.W.Frag) (mg : Str → Option Value) (x : Str) (st : Stmt) (ps : List Str) : Prop := ∃ f fd, Fn K mg x st ps f fd
section
variable {X : Cx} {x : Str} {st : Stmt} {ps : List Str} {f : Addr} {fd : FuncData} {k : Nat} {sp : Sp} {e : Expr} {es : List Expr} {t : TA} {p pos : Pos}
theorem pe_fn (N : Fn X.K X.mg x st ps f fd) (G : FnOk X.prog X.w X.K X.mg X.base CX0 k f fd ps sp) (hr : Room k X.A) (ha : PA X (e :: es) t) (hg : Gl X x := by rfl)
    (hdb : (x == ("__debug__" : Str)) = false := by decide) (he : starEach (e :: es) X.env = (false, eval e X.env) :: starEach es X.env := by rfl) (hpl : (backTo pos (starEach es X.env)).any (·.1) = false := by rfl) :
    PE X (.Call (.Name x p) (e :: es) [] pos) (tCall sp [] E0 t) := pe_call G hr hg N.mgx N.fu.kp N.bd .nil pass0 ha hdb he hpl
theorem pe_gl {v : V} (h : ∃ u, X.mg x = some u ∧ RelV v u) (hg : Gl X x := by rfl) (hd : (x == ("__debug__" : Str)) = false := by decide) : PE X (.Name x pos) (tC v) := by
  obtain ⟨u, h1, h2⟩ := h
  exact pe_glob hg h1 h2 hd
theorem pe_ty {T : String} (hm : X.mg x = none) (hv : bootBuiltins x = some (.type T)) (hg : Gl X x := by rfl) (hn : x ≠ "__name__" := by decide) (hd : (x == ("__debug__" : Str)) = false := by decide) : PE X (.Name x pos) (tC (.ty T)) :=
  pe_bltn hg hm hv rfl hn hd
end
/-! ### signs -/
def okSign (c : Nat) : Bool := decide (32 ≤ c ∧ c ≤ 126)
def plainB (z : Str) (lo hi : Int) : Bool := decide (lo ≤ z.length ∧ (z.length : Int) ≤ hi) && z.cps.toList.all okSign
/-- a thing that is no text -/
def NotStr (K : PySem.W.Frag) (H : Hp) (v : V) : Prop := ∃ t, TyOf K H v t ∧ PySem.W.kitOne K t (.type "str") = some false
end L2

set_option Elab.async false
set_option linter.all false
set_option maxRecDepth 100000
set_option maxHeartbeats 4000000
namespace L2
open PySem PySem.Spec PyProof.Rows PySem.SeqAt
section
variable {X : Cx}
/-- what is no number -/
inductive NoNum (H : Hp) : V → Prop where
  | non : NoNum H .non
  | str (x : Str) : NoNum H (.str x)
  | lst {a : Addr} {xs : List V} (e : H a = some (.lst xs)) : NoNum H (.ref a)
  | tup {a : Addr} {xs : List V} (e : H a = some (.tup xs)) : NoNum H (.ref a)
  | dK {a : Addr} {kvs : List (Key × V)} (e : H a = some (.dK kvs)) : NoNum H (.ref a)
end
end L2

set_option Elab.async false
set_option linter.all false
set_option maxRecDepth 100000
set_option maxHeartbeats 4000000
namespace L2
open PySem PySem.Spec PyProof.Rows
/-! ### arguments without a star, seen by the expression's head alone -/
def isStar : Expr → Bool
  | .Starred .. => true
  | _ => false
theorem star_cons {e : Expr} {es : List Expr} {env : Env} (h : isStar e = false) : starEach (e :: es) env = (false, eval e env) :: starEach es env := by
  cases e <;> first
    | rfl
    | (have h' : true = false := h; cases h')
def noStar : List Expr → Bool
  | [] => true
  | e :: es => !isStar e && noStar es
theorem star_any {pos : Pos} {env : Env} : ∀ {es : List Expr}, noStar es = true → (backTo pos (starEach es env)).any (·.1) = false
  | [], _ => rfl
  | e :: es, h => by
    have h' : (!isStar e && noStar es) = true := h
    rw [Bool.and_eq_true] at h'
    have h1 : isStar e = false := by simpa using h'.1
    rw [star_cons h1]
    show (false || (backTo pos (starEach es env)).any (·.1)) = false
    rw [star_any h'.2]
    rfl
section
variable {X : Cx} {x : Str} {st : Stmt} {ps : List Str} {f : Addr} {fd : FuncData} {k : Nat} {sp : Sp} {e : Expr} {es : List Expr} {t : TA} {te : TE} {p pos : Pos} {id T : String} {r : List V → Hp → VK → Prop}
theorem pa_c (ha : PE X e te) (hr : PA X es t) (h : isStar e = false := by rfl) : PA X (e :: es) (tCons te t) := pa_cons ha hr (star_cons h)
theorem pe_f (N : Fn X.K X.mg x st ps f fd) (G : FnOk X.prog X.w X.K X.mg X.base CX0 k f fd ps sp) (hr : Room k X.A) (ha : PA X (e :: es) t) (hg : Gl X x := by rfl) (hdb : (x == ("__debug__" : Str)) = false := by decide) (h1 : isStar e = false := by rfl) (h2 : noStar es = true := by rfl) :
    PE X (.Call (.Name x p) (e :: es) [] pos) (tCall sp [] E0 t) := pe_fn N G hr ha hg hdb (star_cons h1) (star_any h2)
theorem pe_b (hc : CallR X (.builtin id) r) (hm : X.mg x = none) (hv : bootBuiltins x = some (.builtin id)) (ha : PA X (e :: es) t) (hg : Gl X x := by rfl) (hn : x ≠ "__name__" := by decide) (hdb : (x == ("__debug__" : Str)) = false := by decide) (h1 : isStar e = false := by rfl) (h2 : noStar es = true := by rfl) :
    PE X (.Call (.Name x p) (e :: es) [] pos) (tCB r t) := pe_callB hc hg hm hv ha hn hdb (star_cons h1) (star_any h2)
theorem pe_t (hc : CallR X (.type T) r) (hm : X.mg x = none) (hv : bootBuiltins x = some (.type T)) (ha : PA X (e :: es) t) (hg : Gl X x := by rfl) (hn : x ≠ "__name__" := by decide) (hdb : (x == ("__debug__" : Str)) = false := by decide) (h1 : isStar e = false := by rfl) (h2 : noStar es = true := by rfl) :
    PE X (.Call (.Name x p) (e :: es) [] pos) (tCB r t) := pe_callTy hc hg hm hv ha hn hdb (star_cons h1) (star_any h2)
theorem pi_r1 {tg a : Expr} {ta : TA} (hm : X.mg "range" = none) (ha : PA X [a] ta) (hg : Gl X "range" := by rfl) (h1 : isStar a = false := by rfl) : PI X tg (.Call (.Name "range" p) [a] [] pos) (iRng1 ta) := pi_range1 hg hm ha (by rw [star_cons h1]; rfl)
theorem pi_r2 {tg a b : Expr} {ta : TA} (hm : X.mg "range" = none) (ha : PA X [a, b] ta) (hg : Gl X "range" := by rfl) (h1 : isStar a = false := by rfl) (h2 : isStar b = false := by rfl) : PI X tg (.Call (.Name "range" p) [a, b] [] pos) (iRng2 ta) := pi_range2 hg hm ha (by rw [star_cons h1, star_cons h2]; rfl) (by rw [star_cons h2]; rfl)
end
end L2

set_option Elab.async false
set_option linter.all false
set_option maxRecDepth 100000
set_option maxHeartbeats 4000000
namespace L2
open PySem PySem.Spec PyProof.Rows
theorem mulOk_small {z : Str} {n : Int} (hz : z.length ≤ 1000) (h0 : -1000 ≤ n) (h1 : n ≤ 1000) : MulOk z n := by
  refine ⟨?_, fun hn _ h => ?_, fun hn _ => ?_⟩
  · rw [decide_eq_false (by omega), decide_eq_false (by omega)]
    rfl
  · have : (1000 : Int) ≤ (2 ^ 63 - 1) / n := Int.le_ediv_of_mul_le (by omega) (by omega)
    omega
  · show decide (z.length * n.toNat > sizeLine) = false
    have h2 : z.length * n.toNat ≤ 1000 * 1000 := Nat.mul_le_mul hz (by omega)
    rw [sizeLine_eq]
    exact decide_eq_false (by omega)
theorem str_k : Str.ofString "k" = ⟨#[107]⟩ := by decide +kernel
theorem mul_k_list (n : Int) : (Txt.mul (Str.ofString "k") n).cps.toList = List.replicate n.toNat 107 := by
  rw [str_k]
  exact mul_one_list 107 n
theorem len_list (z : Str) : z.length = z.cps.toList.length := by simp [Str.length]
theorem app_list (x y : Str) : (x ++ y).cps.toList = x.cps.toList ++ y.cps.toList := by
  show (x.cps ++ y.cps).toList = _
  simp
end L2
namespace L2
open PySem PySem.Spec PyProof.Rows
end L2
namespace L2
open PySem PySem.Spec PyProof.Rows
section
variable {K : PySem.W.Frag}
theorem TyOf.same {H H' : Hp} {v : V} {t : Value} (ty : TyOf K H v t) (s : Same H H') : TyOf K H' v t := by
  cases ty with
  | non => exact .non
  | bl x => exact .bl x
  | int i => exact .int i
  | str x => exact .str x
  | flt x => exact .flt x
  | lst e => exact .lst (s _ _ e)
  | frz e => exact .frz (s _ _ e)
  | tup e => exact .tup (s _ _ e)
  | dK e => exact .dK (s _ _ e)
  | dT e => exact .dT (s _ _ e)
  | ins e cl ha hn htk hm => exact .ins (s _ _ e) cl ha hn htk hm
theorem NotStr.same {H H' : Hp} {v : V} (h : NotStr K H v) (s : Same H H') : NotStr K H' v := by
  obtain ⟨t, ty, k⟩ := h
  exact ⟨t, ty.same s, k⟩
theorem NoNum.same {H H' : Hp} {v : V} (h : NoNum H v) (s : Same H H') : NoNum H' v := by
  cases h with
  | non => exact .non
  | str x => exact .str x
  | lst e => exact .lst (s _ _ e)
  | tup e => exact .tup (s _ _ e)
  | dK e => exact .dK (s _ _ e)
end
end L2

set_option Elab.async false
set_option linter.all false
set_option maxRecDepth 100000
set_option maxHeartbeats 4000000
namespace L2
open PySem PySem.Spec PyProof.Rows
/-! ### rules for whatever kinds the operands are of -/
section
variable {X : Cx}
def rAddP (K : PySem.W.Frag) : R2 := fun x y H Q => rI0 (fun i j => .int (i + j)) x y H Q ∨ (∃ i j, x = .str i ∧ y = .str j ∧ i.length + j.length ≤ sizeLine ∧ Q (.str (i ++ j)) H) ∨ rCat x y H Q ∨ rCatT K x y H Q
theorem o_add : OpR X (binaryOp .Add) (rAddP X.K) := op_add.or (op_add_str.or (op_cat.or op_catT))
def rMulP : R2 := fun x y H Q => rI CMul (fun i j => .int (i * j)) x y H Q ∨ (∃ z n, x = .str z ∧ y = .int n ∧ MulOk z n ∧ Q (.str (Txt.mul z n)) H) ∨ rRep x y H Q
theorem o_mul : OpR X (binaryOp .Mult) rMulP := op_mul.or (op_mul_str.or op_rep)
def rLtP : R2 := fun x y H Q => rI0 (fun i j => .bl (decide (i < j))) x y H Q ∨ (∃ i j, x = .str i ∧ y = .str j ∧ Q (.bl (decide (i.cps.toList < j.cps.toList))) H)
theorem o_lt : OpR X (compareOp .Lt) rLtP := op_lt.or op_lt_str
def rLeP : R2 := fun x y H Q => rI0 (fun i j => .bl (decide (i ≤ j))) x y H Q ∨ (∃ i j, x = .str i ∧ y = .str j ∧ Q (.bl (!decide (j.cps.toList < i.cps.toList))) H)
def rSlP (K : PySem.W.Frag) : V → Option Int → Option Int → Hp → VK → Prop := fun x lo hi H Q => rSlS x lo hi H Q ∨ rSlL K x lo hi H Q ∨ rSlT K x lo hi H Q
theorem s_any : SlR X (rSlP X.K) := sl_str.or (sl_list.or sl_tup)
end
/-! ### how a reading is gone along, by the head of what is asked -/
section
variable {X : Cx} {K : PySem.W.Frag} {σ : St} {H : Hp} {D : Ends} {Q : VK} {E : XK}
theorem rd_mod {i j : Int} (hc : 0 < j) (h : Q (.int (i % j)) H) : rI (fun _ j => 0 < j) (fun i j => .int (i % j)) (.int i) (.int j) H Q := ⟨i, j, rfl, rfl, hc, h⟩
theorem rd_fdiv {i j : Int} (hc : 0 < j ∧ j < 1073741824) (h : Q (.int (i / j)) H) : rI CDiv (fun i j => .int (i / j)) (.int i) (.int j) H Q := ⟨i, j, rfl, rfl, hc, h⟩
theorem rd_pow {i j : Int} (hc : 0 ≤ j ∧ j ≤ 1000000 ∧ i.natAbs < 2 ^ 64) (h : Q (.int (i ^ j.toNat)) H) : rI CPow (fun i j => .int (i ^ j.toNat)) (.int i) (.int j) H Q := ⟨i, j, rfl, rfl, hc, h⟩
theorem rd_shr {i j : Int} (hc : 0 ≤ j) (h : Q (.int (i / 2 ^ j.toNat)) H) : rI (fun _ j => 0 ≤ j) (fun i j => .int (i / 2 ^ j.toNat)) (.int i) (.int j) H Q := ⟨i, j, rfl, rfl, hc, h⟩
theorem rd_addI {i j : Int} (h : Q (.int (i + j)) H) : rAddP K (.int i) (.int j) H Q := .inl ⟨i, j, rfl, rfl, h⟩
theorem rd_addS {i j : Str} (hz : i.length + j.length ≤ sizeLine) (h : Q (.str (i ++ j)) H) : rAddP K (.str i) (.str j) H Q := .inr (.inl ⟨i, j, rfl, rfl, hz, h⟩)
theorem same_new {p : Addr} {o : HO} (h : H p = none) : Same H (upd H p o) := fun b u e => by rw [upd_ne (ne_of_none e h)]; exact e
theorem rd_addL {l b : Addr} {xs ys : List V} (h1 : H l = some (.lst xs)) (h2 : H b = some (.lst ys)) (hz : xs.length + ys.length ≤ sizeLine) (h : ∀ p H1, H p = none → Same H H1 → H1 p = some (.lst (xs ++ ys)) → Q (.ref p) H1) : rAddP K (.ref l) (.ref b) H Q :=
  .inr (.inr (.inl ⟨l, b, xs, ys, rfl, rfl, h1, h2, hz, fun p hp => h p _ hp (same_new hp) upd_same⟩))
theorem rd_addT {l b : Addr} {xs ys : List V} (h1 : H l = some (.tup xs)) (h2 : H b = some (.tup ys)) (hx : xs ≠ []) (hz : xs.length + ys.length ≤ sizeLine) (h : ∀ p H1, Same H H1 → H1 p = some (.tup (xs ++ ys)) → Q (.ref p) H1) : rAddP K (.ref l) (.ref b) H Q := by
  refine .inr (.inr (.inr ⟨l, b, xs, ys, rfl, rfl, .of h1, .of h2, hx, hz, fun e => ?_, fun _ p hp => h p _ (same_new hp) upd_same⟩))
  refine h l H (Same.refl H) ?_
  rw [e, List.append_nil]
  exact h1
theorem rd_mulI {i j : Int} (hc : CMul i j) (h : Q (.int (i * j)) H) : rMulP (.int i) (.int j) H Q := .inl ⟨i, j, rfl, rfl, hc, h⟩
theorem rd_mulS {z : Str} {n : Int} (hc : MulOk z n) (h : Q (.str (Txt.mul z n)) H) : rMulP (.str z) (.int n) H Q := .inr (.inl ⟨z, n, rfl, rfl, hc, h⟩)
theorem rd_ltI {i j : Int} (h : Q (.bl (decide (i < j))) H) : rLtP (.int i) (.int j) H Q := .inl ⟨i, j, rfl, rfl, h⟩
theorem rd_ltS {i j : Str} (h : Q (.bl (decide (i.cps.toList < j.cps.toList))) H) : rLtP (.str i) (.str j) H Q := .inr ⟨i, j, rfl, rfl, h⟩
theorem rd_leI {i j : Int} (h : Q (.bl (decide (i ≤ j))) H) : rLeP (.int i) (.int j) H Q := .inl ⟨i, j, rfl, rfl, h⟩
theorem rd_leS {i j : Str} (h : Q (.bl (!decide (j.cps.toList < i.cps.toList))) H) : rLeP (.str i) (.str j) H Q := .inr ⟨i, j, rfl, rfl, h⟩
end
end L2

set_option Elab.async false
set_option linter.all false
set_option maxRecDepth 100000
set_option maxHeartbeats 4000000
namespace L2
open PySem PySem.Spec PyProof.Rows PySem.SeqAt
/-! ### plain data, and how it lies on the heap -/
inductive D where
  | non | bl (b : Bool) | int (i : Int) | str (x : Str) | lst (xs : List D) | tup (xs : List D) | dct
mutual
def Rep (H : Hp) : D → V → Prop
  | .non, v => v = .non
  | .bl b, v => v = .bl b
  | .int i, v => v = .int i
  | .str x, v => v = .str x
  | .lst ds, v => ∃ a vs, v = .ref a ∧ H a = some (.lst vs) ∧ Reps H ds vs
  | .tup ds, v => ∃ a vs, v = .ref a ∧ H a = some (.tup vs) ∧ Reps H ds vs
  | .dct, v => ∃ a kvs, v = .ref a ∧ H a = some (.dK kvs)
def Reps (H : Hp) : List D → List V → Prop
  | [], vs => vs = []
  | d :: ds, vs => ∃ v r, vs = v :: r ∧ Rep H d v ∧ Reps H ds r
end
mutual
def pyEq : D → D → Bool
  | .non, .non => true
  | .bl a, .bl b => a == b
  | .bl a, .int i => (if a then 1 else 0) == i
  | .int i, .bl a => i == (if a then 1 else 0)
  | .int i, .int j => i == j
  | .str x, .str y => x == y
  | .lst xs, .lst ys => pyEqs xs ys
  | .tup xs, .tup ys => pyEqs xs ys
  | .dct, .dct => true
  | _, _ => false
def pyEqs : List D → List D → Bool
  | [], [] => true
  | x :: xs, y :: ys => pyEq x y && pyEqs xs ys
  | _, _ => false
end
mutual
def D.dep : D → Nat
  | .lst ds => D.deps ds + 1
  | .tup ds => D.deps ds + 1
  | .dct => 1000
  | _ => 0
def D.deps : List D → Nat
  | [] => 0
  | d :: ds => max (D.dep d) (D.deps ds)
end
theorem Reps.length {H : Hp} : ∀ {ds : List D} {vs : List V}, Reps H ds vs → ds.length = vs.length
  | [], vs, h => by simp only [Reps] at h; subst h; rfl
  | d :: ds, vs, h => by
    simp only [Reps] at h
    obtain ⟨v, r, rfl, _, h⟩ := h
    rw [List.length_cons, List.length_cons, Reps.length h]
mutual
theorem Rep.same {H H' : Hp} (s : Same H H') : ∀ {d : D} {v : V}, Rep H d v → Rep H' d v
  | .non, v, h => by simp only [Rep] at h ⊢; exact h
  | .bl b, v, h => by simp only [Rep] at h ⊢; exact h
  | .int b, v, h => by simp only [Rep] at h ⊢; exact h
  | .str b, v, h => by simp only [Rep] at h ⊢; exact h
  | .lst ds, v, h => by simp only [Rep] at h ⊢; obtain ⟨a, vs, e, h1, h2⟩ := h; exact ⟨a, vs, e, s _ _ h1, Reps.same s h2⟩
  | .tup ds, v, h => by simp only [Rep] at h ⊢; obtain ⟨a, vs, e, h1, h2⟩ := h; exact ⟨a, vs, e, s _ _ h1, Reps.same s h2⟩
  | .dct, v, h => by simp only [Rep] at h ⊢; obtain ⟨a, vs, e, h1⟩ := h; exact ⟨a, vs, e, s _ _ h1⟩
theorem Reps.same {H H' : Hp} (s : Same H H') : ∀ {ds : List D} {vs : List V}, Reps H ds vs → Reps H' ds vs
  | [], vs, h => by simp only [Reps] at h ⊢; exact h
  | d :: ds, vs, h => by simp only [Reps] at h ⊢; obtain ⟨v, r, e, h1, h2⟩ := h; exact ⟨v, r, e, Rep.same s h1, Reps.same s h2⟩
end
mutual
theorem pyEq_refl : ∀ d : D, pyEq d d = true
  | .non => by simp [pyEq]
  | .bl b => by simp [pyEq]
  | .int b => by simp [pyEq]
  | .str b => by simp [pyEq]
  | .lst ds => by simp only [pyEq]; exact pyEqs_refl ds
  | .tup ds => by simp only [pyEq]; exact pyEqs_refl ds
  | .dct => by simp only [pyEq]
theorem pyEqs_refl : ∀ ds : List D, pyEqs ds ds = true
  | [] => by simp [pyEqs]
  | d :: ds => by simp only [pyEqs]; rw [pyEq_refl d, pyEqs_refl ds]; rfl
end
mutual
theorem Rep.inj {H : Hp} : ∀ {d e : D} {v : V}, Rep H d v → Rep H e v → d = e
  | .non, e, v, h, h' => by simp only [Rep] at h; subst h; cases e <;> simp only [Rep] at h' <;> first | rfl | (cases h'; done) | (obtain ⟨_, _, z, _⟩ := h'; cases z)
  | .bl b, e, v, h, h' => by simp only [Rep] at h; subst h; cases e <;> simp only [Rep] at h' <;> first | (cases h'; rfl) | (cases h'; done) | (obtain ⟨_, _, z, _⟩ := h'; cases z)
  | .int b, e, v, h, h' => by simp only [Rep] at h; subst h; cases e <;> simp only [Rep] at h' <;> first | (cases h'; rfl) | (cases h'; done) | (obtain ⟨_, _, z, _⟩ := h'; cases z)
  | .str b, e, v, h, h' => by simp only [Rep] at h; subst h; cases e <;> simp only [Rep] at h' <;> first | (cases h'; rfl) | (cases h'; done) | (obtain ⟨_, _, z, _⟩ := h'; cases z)
  | .lst ds, e, v, h, h' => by
    simp only [Rep] at h
    obtain ⟨a, vs, rfl, h1, h2⟩ := h
    cases e <;> simp only [Rep] at h' <;> first | (cases h'; done) | skip
    · obtain ⟨a', vs', z, h1', h2'⟩ := h'
      cases z
      rw [h1] at h1'
      cases h1'
      rw [Reps.inj h2 h2']
    · obtain ⟨a', vs', z, h1', h2'⟩ := h'
      cases z
      rw [h1] at h1'
      cases h1'
    · obtain ⟨a', vs', z, h1'⟩ := h'
      cases z
      rw [h1] at h1'
      cases h1'
  | .tup ds, e, v, h, h' => by
    simp only [Rep] at h
    obtain ⟨a, vs, rfl, h1, h2⟩ := h
    cases e <;> simp only [Rep] at h' <;> first | (cases h'; done) | skip
    · obtain ⟨a', vs', z, h1', h2'⟩ := h'
      cases z
      rw [h1] at h1'
      cases h1'
    · obtain ⟨a', vs', z, h1', h2'⟩ := h'
      cases z
      rw [h1] at h1'
      cases h1'
      rw [Reps.inj h2 h2']
    · obtain ⟨a', vs', z, h1'⟩ := h'
      cases z
      rw [h1] at h1'
      cases h1'
  | .dct, e, v, h, h' => by
    simp only [Rep] at h
    obtain ⟨a, vs, rfl, h1⟩ := h
    cases e <;> simp only [Rep] at h' <;> first | rfl | (cases h'; done) | skip
    · obtain ⟨a', vs', z, h1', h2'⟩ := h'
      cases z
      rw [h1] at h1'
      cases h1'
    · obtain ⟨a', vs', z, h1', h2'⟩ := h'
      cases z
      rw [h1] at h1'
      cases h1'
theorem Reps.inj {H : Hp} : ∀ {ds es : List D} {vs : List V}, Reps H ds vs → Reps H es vs → ds = es
  | [], es, vs, h, h' => by
    simp only [Reps] at h
    subst h
    cases es with
    | nil => rfl
    | cons e es => simp only [Reps] at h'; obtain ⟨_, _, z, _⟩ := h'; cases z
  | d :: ds, es, vs, h, h' => by
    simp only [Reps] at h
    obtain ⟨v, r, rfl, h1, h2⟩ := h
    cases es with
    | nil => simp only [Reps] at h'; cases h'
    | cons e es =>
      simp only [Reps] at h'
      obtain ⟨_, _, z, h1', h2'⟩ := h'
      cases z
      rw [Rep.inj h1 h1', Reps.inj h2 h2']
end
end L2

set_option Elab.async false
set_option linter.all false
set_option maxRecDepth 100000
set_option maxHeartbeats 4000000
namespace L2
open PySem PySem.Spec PyProof.Rows PySem.SeqAt
theorem eqAt_of_rc {A : Around} {s : Shared} {v u : Value} {b : Bool} (hf : ∀ c t, v ≠ .float c t) (hs : v = u → b = true) (h : RcAt A s v u b) : EqAt A s v u b := fun prog w E Q hq => by
  unfold eqBool
  refine wpAny_holding ?_
  refine wpAny_ite_split (fun hab => ?_) (fun _ => ?_)
  · rw [hs (eq_of_beq hab)] at hq
    exact wpAny_bind (wpAny_rule (wpAny_pure hq))
  · cases v <;> first
      | exact absurd rfl (hf _ _)
      | exact wpAny_bind (h prog w E _ (wpAny_truthy_bool hq))
theorem Rep.noflt {H : Hp} {d : D} {x : V} {v : Value} (h : Rep H d x) (r : RelV x v) : ∀ c t, v ≠ .float c t := fun c t z => by
  subst z
  cases d <;> simp only [Rep] at h
  · subst h; cases (show Value.float c t = Value.none from r)
  · subst h; cases (show Value.float c t = Value.bool _ from r)
  · subst h; obtain ⟨_, z⟩ := r; cases z
  · subst h; obtain ⟨_, z⟩ := r; cases z
  · obtain ⟨a, _, rfl, _⟩ := h; cases (show Value.float c t = Value.ref a from r)
  · obtain ⟨a, _, rfl, _⟩ := h; cases (show Value.float c t = Value.ref a from r)
  · obtain ⟨a, _, rfl, _⟩ := h; cases (show Value.float c t = Value.ref a from r)
def eqIx (ds es : List D) (j : Nat) : Bool := pyEq (ds.getD j .non) (es.getD j .non)
theorem pyEqs_range : ∀ {ds es : List D}, ds.length = es.length → (List.range ds.length).all (eqIx ds es) = pyEqs ds es
  | [], [], _ => by simp [pyEqs]
  | [], _ :: _, h => by simp at h
  | _ :: _, [], h => by simp at h
  | d :: ds, e :: es, h => by
    rw [List.length_cons, List.range_succ_eq_map, List.all_cons, List.all_map]
    have ih := pyEqs_range (ds := ds) (es := es) (by simpa using h)
    simp only [pyEqs]
    rw [← ih]
    rfl
theorem pyEqs_len : ∀ {ds es : List D}, ds.length ≠ es.length → pyEqs ds es = false
  | [], [], h => by simp at h
  | [], _ :: _, _ => by simp [pyEqs]
  | _ :: _, [], _ => by simp [pyEqs]
  | d :: ds, e :: es, h => by
    simp only [pyEqs]
    rw [pyEqs_len (ds := ds) (es := es) (by simpa using h), Bool.and_false]
theorem Reps.get {H : Hp} : ∀ {ds : List D} {vs : List V} {j : Nat}, Reps H ds vs → j < ds.length → ∃ v, vs[j]? = some v ∧ Rep H (ds.getD j .non) v
  | [], _, _, _, h => by simp at h
  | d :: ds, vs, j, h, hj => by
    simp only [Reps] at h
    obtain ⟨v, r, rfl, h1, h2⟩ := h
    cases j with
    | zero => exact ⟨v, rfl, h1⟩
    | succ j =>
      obtain ⟨w, e, h3⟩ := Reps.get h2 (show j < ds.length by simpa using hj)
      exact ⟨w, by simpa using e, h3⟩
theorem D.dep_get : ∀ (ds : List D) (j : Nat), (ds.getD j .non).dep ≤ D.deps ds
  | [], j => by simp [D.dep, D.deps]
  | d :: ds, 0 => by simp only [D.deps, List.getD_cons_zero]; omega
  | d :: ds, j + 1 => by
    have := D.dep_get ds j
    simp only [D.deps, List.getD_cons_succ]
    omega
theorem len_min_all {n m : Nat} {e : Nat → Bool} {ds es : List D} (hn : n = ds.length) (hm : m = es.length) (he : e = eqIx ds es) : ((List.range (min n m)).all e && n == m) = pyEqs ds es := by
  subst hn hm he
  by_cases h : ds.length = es.length
  · rw [h, Nat.min_self, ← h, pyEqs_range h]
    simp
  · rw [pyEqs_len h, beq_eq_false_iff_ne.mpr h, Bool.and_false]
theorem rep_rc {P : Program} {w : World} : ∀ (n : Nat) {A : Around} {s : Shared} {H : Hp} {d e : D} {x y : V} {v u : Value}, HOk P w H s.heap → d.dep ≤ n → e.dep ≤ n → n < 1000 → Rep H d x → Rep H e y → RelV x v → RelV y u → A.units + n < cLine → RcAt A s v u (pyEq d e)
  | n, A, s, H, d, e, x, y, v, u, hok, hn, hn', hlt, hd, he, rx, ry, hu => by
    have hu0 : A.units < cLine := by omega
    have items : ∀ {ds es : List D} {vs us : List V} {its its2 : List Value}, D.deps ds + 1 ≤ n → D.deps es + 1 ≤ n → Reps H ds vs → Reps H es us → Vals vs its → Vals us its2 → ∀ j (h1 : j < its.toArray.size) (h2 : j < its2.toArray.size), EqAt A.in1 s its.toArray[j] its2.toArray[j] (eqIx ds es j) := by
      intro ds es vs us its its2 hdep hdep' r1 r2 v1 v2 j h1 h2
      have l1 := r1.length
      have l2 := r2.length
      have l3 := v1.length
      have l4 := v2.length
      rw [List.size_toArray] at h1 h2
      obtain ⟨a, ea, ra⟩ := r1.get (j := j) (by omega)
      obtain ⟨b, eb, rb⟩ := r2.get (j := j) (by omega)
      obtain ⟨va, eva, rva⟩ := v1.get ea
      obtain ⟨vb, evb, rvb⟩ := v2.get eb
      have ga : its.toArray[j]'(by simpa using h1) = va := by
        rw [List.getElem?_eq_getElem h1] at eva
        simpa using Option.some.inj eva
      have gb : its2.toArray[j]'(by simpa using h2) = vb := by
        rw [List.getElem?_eq_getElem h2] at evb
        simpa using Option.some.inj evb
      rw [ga, gb]
      have hdj := D.dep_get ds j
      have hdj' := D.dep_get es j
      refine eqAt_of_rc (ra.noflt rva) (fun z => ?_) (rep_rc (n - 1) hok (by omega) (by omega) (by omega) ra rb rva rvb (by rw [Around.in1_units]; omega))
      subst z
      have := rva.inj rvb
      subst this
      have := ra.inj rb
      unfold eqIx
      rw [this]
      exact pyEq_refl _
    cases d with
    | dct => simp only [D.dep] at hn; omega
    | non =>
      simp only [Rep] at hd; subst hd
      cases (show v = Value.none from rx)
      cases e with
      | dct => simp only [D.dep] at hn'; omega
      | non => simp only [Rep] at he; subst he; cases (show u = Value.none from ry); simp only [pyEq]; exact RcAt.none_none
      | bl b => simp only [Rep] at he; subst he; cases (show u = Value.bool b from ry); simp only [pyEq]; exact RcAt.none_bool _
      | int b => simp only [Rep] at he; subst he; obtain ⟨t, rfl⟩ := ry; simp only [pyEq]; exact RcAt.none_int _ _
      | str b => simp only [Rep] at he; subst he; obtain ⟨t, rfl⟩ := ry; simp only [pyEq]; exact RcAt.none_str _ _
      | lst ds => simp only [Rep] at he; obtain ⟨a, vs, rfl, h1, h2⟩ := he; cases (show u = Value.ref a from ry); obtain ⟨_, its, k, _, h3⟩ := (show ObjOk P w H s.heap a (.lst vs) from hok a _ h1); simp only [pyEq]; exact RcAt.none_list (items := its.toArray) ⟨_, h3, rfl, k, rfl⟩ hu0
      | tup ds => simp only [Rep] at he; obtain ⟨a, vs, rfl, h1, h2⟩ := he; cases (show u = Value.ref a from ry); obtain ⟨_, its, _, h3⟩ := (show ObjOk P w H s.heap a (.tup vs) from hok a _ h1); simp only [pyEq]; exact RcAt.none_tuple h3 hu0
    | bl c =>
      simp only [Rep] at hd; subst hd
      cases (show v = Value.bool c from rx)
      cases e with
      | dct => simp only [D.dep] at hn'; omega
      | non => simp only [Rep] at he; subst he; cases (show u = Value.none from ry); simp only [pyEq]; exact RcAt.bool_none _
      | bl b => simp only [Rep] at he; subst he; cases (show u = Value.bool b from ry); simp only [pyEq]; exact RcAt.bool_bool _ _
      | int b => simp only [Rep] at he; subst he; obtain ⟨t, rfl⟩ := ry; simp only [pyEq]; exact RcAt.bool_int _ _ _
      | str b => simp only [Rep] at he; subst he; obtain ⟨t, rfl⟩ := ry; simp only [pyEq]; exact RcAt.bool_str _ _ _
      | lst ds => simp only [Rep] at he; obtain ⟨a, vs, rfl, h1, h2⟩ := he; cases (show u = Value.ref a from ry); obtain ⟨_, its, k, _, h3⟩ := (show ObjOk P w H s.heap a (.lst vs) from hok a _ h1); simp only [pyEq]; exact RcAt.bool_list (items := its.toArray) _ ⟨_, h3, rfl, k, rfl⟩ hu0
      | tup ds => simp only [Rep] at he; obtain ⟨a, vs, rfl, h1, h2⟩ := he; cases (show u = Value.ref a from ry); obtain ⟨_, its, _, h3⟩ := (show ObjOk P w H s.heap a (.tup vs) from hok a _ h1); simp only [pyEq]; exact RcAt.bool_tuple _ h3 hu0
    | int c =>
      simp only [Rep] at hd; subst hd
      obtain ⟨t', rfl⟩ := rx
      cases e with
      | dct => simp only [D.dep] at hn'; omega
      | non => simp only [Rep] at he; subst he; cases (show u = Value.none from ry); simp only [pyEq]; exact RcAt.int_none _ _
      | bl b => simp only [Rep] at he; subst he; cases (show u = Value.bool b from ry); simp only [pyEq]; exact RcAt.int_bool _ _ _
      | int b => simp only [Rep] at he; subst he; obtain ⟨t, rfl⟩ := ry; simp only [pyEq]; exact RcAt.int_int _ _ _ _
      | str b => simp only [Rep] at he; subst he; obtain ⟨t, rfl⟩ := ry; simp only [pyEq]; exact RcAt.int_str _ _ _ _
      | lst ds => simp only [Rep] at he; obtain ⟨a, vs, rfl, h1, h2⟩ := he; cases (show u = Value.ref a from ry); obtain ⟨_, its, k, _, h3⟩ := (show ObjOk P w H s.heap a (.lst vs) from hok a _ h1); simp only [pyEq]; exact RcAt.int_list (items := its.toArray) _ _ ⟨_, h3, rfl, k, rfl⟩ hu0
      | tup ds => simp only [Rep] at he; obtain ⟨a, vs, rfl, h1, h2⟩ := he; cases (show u = Value.ref a from ry); obtain ⟨_, its, _, h3⟩ := (show ObjOk P w H s.heap a (.tup vs) from hok a _ h1); simp only [pyEq]; exact RcAt.int_tuple _ _ h3 hu0
    | str c =>
      simp only [Rep] at hd; subst hd
      obtain ⟨t', rfl⟩ := rx
      cases e with
      | dct => simp only [D.dep] at hn'; omega
      | non => simp only [Rep] at he; subst he; cases (show u = Value.none from ry); simp only [pyEq]; exact RcAt.str_none _ _
      | bl b => simp only [Rep] at he; subst he; cases (show u = Value.bool b from ry); simp only [pyEq]; exact RcAt.str_bool _ _ _
      | int b => simp only [Rep] at he; subst he; obtain ⟨t, rfl⟩ := ry; simp only [pyEq]; exact RcAt.str_int _ _ _ _
      | str b => simp only [Rep] at he; subst he; obtain ⟨t, rfl⟩ := ry; simp only [pyEq]; exact RcAt.str_str _ _ _ _
      | lst ds => simp only [Rep] at he; obtain ⟨a, vs, rfl, h1, h2⟩ := he; cases (show u = Value.ref a from ry); obtain ⟨_, its, k, _, h3⟩ := (show ObjOk P w H s.heap a (.lst vs) from hok a _ h1); simp only [pyEq]; exact RcAt.str_list (items := its.toArray) _ _ ⟨_, h3, rfl, k, rfl⟩ hu0
      | tup ds => simp only [Rep] at he; obtain ⟨a, vs, rfl, h1, h2⟩ := he; cases (show u = Value.ref a from ry); obtain ⟨_, its, _, h3⟩ := (show ObjOk P w H s.heap a (.tup vs) from hok a _ h1); simp only [pyEq]; exact RcAt.str_tuple _ _ h3 hu0
    | lst cs =>
      simp only [Rep] at hd
      obtain ⟨b, ws, rfl, g1, g2⟩ := hd
      cases (show v = Value.ref b from rx)
      obtain ⟨_, jts, m, g4, g3⟩ := (show ObjOk P w H s.heap b (.lst ws) from hok b _ g1)
      have gl : s.heap.IsList b jts.toArray := ⟨_, g3, rfl, m, rfl⟩
      cases e with
      | dct => simp only [D.dep] at hn'; omega
      | non => simp only [Rep] at he; subst he; cases (show u = Value.none from ry); simp only [pyEq]; exact RcAt.list_none gl hu0
      | bl b => simp only [Rep] at he; subst he; cases (show u = Value.bool b from ry); simp only [pyEq]; exact RcAt.list_bool _ gl hu0
      | int b => simp only [Rep] at he; subst he; obtain ⟨t, rfl⟩ := ry; simp only [pyEq]; exact RcAt.list_int _ _ gl hu0
      | str b => simp only [Rep] at he; subst he; obtain ⟨t, rfl⟩ := ry; simp only [pyEq]; exact RcAt.list_str _ _ gl hu0
      | lst ds =>
        simp only [Rep] at he
        obtain ⟨a, vs, rfl, h1, h2⟩ := he
        cases (show u = Value.ref a from ry)
        obtain ⟨_, its, k, h4, h3⟩ := (show ObjOk P w H s.heap a (.lst vs) from hok a _ h1)
        simp only [pyEq]
        have l1 := g2.length
        have l2 := h2.length
        have l3 := g4.length
        have l4 := h4.length
        by_cases hl : cs.length = ds.length
        · rw [← pyEqs_range hl]
          have e1 : cs.length = jts.toArray.size := by rw [List.size_toArray]; omega
          rw [e1]
          exact RcAt.lists gl ⟨_, h3, rfl, k, rfl⟩ (by rw [List.size_toArray, List.size_toArray]; omega) hu0 (items (by simp only [D.dep] at hn; omega) (by simp only [D.dep] at hn'; omega) g2 h2 g4 h4)
        · rw [pyEqs_len hl]
          exact RcAt.lists_lengths (items2 := its.toArray) gl ⟨_, h3, rfl, k, rfl⟩ (by rw [List.size_toArray, List.size_toArray]; exact bne_iff_ne.mpr (by omega)) hu0
      | tup ds => simp only [Rep] at he; obtain ⟨a, vs, rfl, h1, h2⟩ := he; cases (show u = Value.ref a from ry); obtain ⟨_, its, _, h3⟩ := (show ObjOk P w H s.heap a (.tup vs) from hok a _ h1); simp only [pyEq]; exact RcAt.list_tuple gl h3 hu0
    | tup cs =>
      simp only [Rep] at hd
      obtain ⟨b, ws, rfl, g1, g2⟩ := hd
      cases (show v = Value.ref b from rx)
      obtain ⟨_, jts, g4, gl⟩ := (show ObjOk P w H s.heap b (.tup ws) from hok b _ g1)
      cases e with
      | dct => simp only [D.dep] at hn'; omega
      | non => simp only [Rep] at he; subst he; cases (show u = Value.none from ry); simp only [pyEq]; exact RcAt.tuple_none gl hu0
      | bl b => simp only [Rep] at he; subst he; cases (show u = Value.bool b from ry); simp only [pyEq]; exact RcAt.tuple_bool _ gl hu0
      | int b => simp only [Rep] at he; subst he; obtain ⟨t, rfl⟩ := ry; simp only [pyEq]; exact RcAt.tuple_int _ _ gl hu0
      | str b => simp only [Rep] at he; subst he; obtain ⟨t, rfl⟩ := ry; simp only [pyEq]; exact RcAt.tuple_str _ _ gl hu0
      | lst ds => simp only [Rep] at he; obtain ⟨a, vs, rfl, h1, h2⟩ := he; cases (show u = Value.ref a from ry); obtain ⟨_, its, k, _, h3⟩ := (show ObjOk P w H s.heap a (.lst vs) from hok a _ h1); simp only [pyEq]; exact RcAt.tuple_list (items2 := its.toArray) gl ⟨_, h3, rfl, k, rfl⟩ hu0
      | tup ds =>
        simp only [Rep] at he
        obtain ⟨a, vs, rfl, h1, h2⟩ := he
        cases (show u = Value.ref a from ry)
        obtain ⟨_, its, h4, h3⟩ := (show ObjOk P w H s.heap a (.tup vs) from hok a _ h1)
        simp only [pyEq]
        have l1 := g2.length
        have l2 := h2.length
        have l3 := g4.length
        have l4 := h4.length
        rw [← len_min_all (n := jts.toArray.size) (m := its.toArray.size) (by rw [List.size_toArray]; omega) (by rw [List.size_toArray]; omega) rfl]
        exact RcAt.tuples gl h3 hu0 (items (by simp only [D.dep] at hn; omega) (by simp only [D.dep] at hn'; omega) g2 h2 g4 h4)
termination_by n => n
decreasing_by all_goals simp_wf; omega
theorem rep_rcne {P : Program} {w : World} : ∀ (n : Nat) {A : Around} {s : Shared} {H : Hp} {d e : D} {x y : V} {v u : Value}, HOk P w H s.heap → d.dep ≤ n → e.dep ≤ n → n < 1000 → Rep H d x → Rep H e y → RelV x v → RelV y u → A.units + n < cLine → RcNeAt A s v u (!pyEq d e)
  | n, A, s, H, d, e, x, y, v, u, hok, hn, hn', hlt, hd, he, rx, ry, hu => by
    have hu0 : A.units < cLine := by omega
    have items : ∀ {ds es : List D} {vs us : List V} {its its2 : List Value}, D.deps ds + 1 ≤ n → D.deps es + 1 ≤ n → Reps H ds vs → Reps H es us → Vals vs its → Vals us its2 → ∀ j (h1 : j < its.toArray.size) (h2 : j < its2.toArray.size), EqAt A.in1 s its.toArray[j] its2.toArray[j] (eqIx ds es j) := by
      intro ds es vs us its its2 hdep hdep' r1 r2 v1 v2 j h1 h2
      have l1 := r1.length
      have l2 := r2.length
      have l3 := v1.length
      have l4 := v2.length
      rw [List.size_toArray] at h1 h2
      obtain ⟨a, ea, ra⟩ := r1.get (j := j) (by omega)
      obtain ⟨b, eb, rb⟩ := r2.get (j := j) (by omega)
      obtain ⟨va, eva, rva⟩ := v1.get ea
      obtain ⟨vb, evb, rvb⟩ := v2.get eb
      have ga : its.toArray[j]'(by simpa using h1) = va := by
        rw [List.getElem?_eq_getElem h1] at eva
        simpa using Option.some.inj eva
      have gb : its2.toArray[j]'(by simpa using h2) = vb := by
        rw [List.getElem?_eq_getElem h2] at evb
        simpa using Option.some.inj evb
      rw [ga, gb]
      have hdj := D.dep_get ds j
      have hdj' := D.dep_get es j
      refine eqAt_of_rc (ra.noflt rva) (fun z => ?_) (rep_rc (n - 1) hok (by omega) (by omega) (by omega) ra rb rva rvb (by rw [Around.in1_units]; omega))
      subst z
      have := rva.inj rvb
      subst this
      have := ra.inj rb
      unfold eqIx
      rw [this]
      exact pyEq_refl _
    cases d with
    | dct => simp only [D.dep] at hn; omega
    | non =>
      simp only [Rep] at hd; subst hd
      cases (show v = Value.none from rx)
      cases e with
      | dct => simp only [D.dep] at hn'; omega
      | non => simp only [Rep] at he; subst he; cases (show u = Value.none from ry); simp only [pyEq]; exact RcNeAt.none_none
      | bl b => simp only [Rep] at he; subst he; cases (show u = Value.bool b from ry); simp only [pyEq]; exact RcNeAt.none_bool _
      | int b => simp only [Rep] at he; subst he; obtain ⟨t, rfl⟩ := ry; simp only [pyEq]; exact RcNeAt.none_int _ _
      | str b => simp only [Rep] at he; subst he; obtain ⟨t, rfl⟩ := ry; simp only [pyEq]; exact RcNeAt.none_str _ _
      | lst ds => simp only [Rep] at he; obtain ⟨a, vs, rfl, h1, h2⟩ := he; cases (show u = Value.ref a from ry); obtain ⟨_, its, k, _, h3⟩ := (show ObjOk P w H s.heap a (.lst vs) from hok a _ h1); simp only [pyEq]; exact RcNeAt.none_list (items := its.toArray) ⟨_, h3, rfl, k, rfl⟩ hu0
      | tup ds => simp only [Rep] at he; obtain ⟨a, vs, rfl, h1, h2⟩ := he; cases (show u = Value.ref a from ry); obtain ⟨_, its, _, h3⟩ := (show ObjOk P w H s.heap a (.tup vs) from hok a _ h1); simp only [pyEq]; exact RcNeAt.none_tuple h3 hu0
    | bl c =>
      simp only [Rep] at hd; subst hd
      cases (show v = Value.bool c from rx)
      cases e with
      | dct => simp only [D.dep] at hn'; omega
      | non => simp only [Rep] at he; subst he; cases (show u = Value.none from ry); simp only [pyEq]; exact RcNeAt.bool_none _
      | bl b => simp only [Rep] at he; subst he; cases (show u = Value.bool b from ry); simp only [pyEq]; exact RcNeAt.bool_bool _ _
      | int b => simp only [Rep] at he; subst he; obtain ⟨t, rfl⟩ := ry; simp only [pyEq]; exact RcNeAt.bool_int _ _ _
      | str b => simp only [Rep] at he; subst he; obtain ⟨t, rfl⟩ := ry; simp only [pyEq]; exact RcNeAt.bool_str _ _ _
      | lst ds => simp only [Rep] at he; obtain ⟨a, vs, rfl, h1, h2⟩ := he; cases (show u = Value.ref a from ry); obtain ⟨_, its, k, _, h3⟩ := (show ObjOk P w H s.heap a (.lst vs) from hok a _ h1); simp only [pyEq]; exact RcNeAt.bool_list (items := its.toArray) _ ⟨_, h3, rfl, k, rfl⟩ hu0
      | tup ds => simp only [Rep] at he; obtain ⟨a, vs, rfl, h1, h2⟩ := he; cases (show u = Value.ref a from ry); obtain ⟨_, its, _, h3⟩ := (show ObjOk P w H s.heap a (.tup vs) from hok a _ h1); simp only [pyEq]; exact RcNeAt.bool_tuple _ h3 hu0
    | int c =>
      simp only [Rep] at hd; subst hd
      obtain ⟨t', rfl⟩ := rx
      cases e with
      | dct => simp only [D.dep] at hn'; omega
      | non => simp only [Rep] at he; subst he; cases (show u = Value.none from ry); simp only [pyEq]; exact RcNeAt.int_none _ _
      | bl b => simp only [Rep] at he; subst he; cases (show u = Value.bool b from ry); simp only [pyEq]; exact RcNeAt.int_bool _ _ _
      | int b => simp only [Rep] at he; subst he; obtain ⟨t, rfl⟩ := ry; simp only [pyEq]; exact RcNeAt.int_int _ _ _ _
      | str b => simp only [Rep] at he; subst he; obtain ⟨t, rfl⟩ := ry; simp only [pyEq]; exact RcNeAt.int_str _ _ _ _
      | lst ds => simp only [Rep] at he; obtain ⟨a, vs, rfl, h1, h2⟩ := he; cases (show u = Value.ref a from ry); obtain ⟨_, its, k, _, h3⟩ := (show ObjOk P w H s.heap a (.lst vs) from hok a _ h1); simp only [pyEq]; exact RcNeAt.int_list (items := its.toArray) _ _ ⟨_, h3, rfl, k, rfl⟩ hu0
      | tup ds => simp only [Rep] at he; obtain ⟨a, vs, rfl, h1, h2⟩ := he; cases (show u = Value.ref a from ry); obtain ⟨_, its, _, h3⟩ := (show ObjOk P w H s.heap a (.tup vs) from hok a _ h1); simp only [pyEq]; exact RcNeAt.int_tuple _ _ h3 hu0
    | str c =>
      simp only [Rep] at hd; subst hd
      obtain ⟨t', rfl⟩ := rx
      cases e with
      | dct => simp only [D.dep] at hn'; omega
      | non => simp only [Rep] at he; subst he; cases (show u = Value.none from ry); simp only [pyEq]; exact RcNeAt.str_none _ _
      | bl b => simp only [Rep] at he; subst he; cases (show u = Value.bool b from ry); simp only [pyEq]; exact RcNeAt.str_bool _ _ _
      | int b => simp only [Rep] at he; subst he; obtain ⟨t, rfl⟩ := ry; simp only [pyEq]; exact RcNeAt.str_int _ _ _ _
      | str b => simp only [Rep] at he; subst he; obtain ⟨t, rfl⟩ := ry; simp only [pyEq]; exact RcNeAt.str_str _ _ _ _
      | lst ds => simp only [Rep] at he; obtain ⟨a, vs, rfl, h1, h2⟩ := he; cases (show u = Value.ref a from ry); obtain ⟨_, its, k, _, h3⟩ := (show ObjOk P w H s.heap a (.lst vs) from hok a _ h1); simp only [pyEq]; exact RcNeAt.str_list (items := its.toArray) _ _ ⟨_, h3, rfl, k, rfl⟩ hu0
      | tup ds => simp only [Rep] at he; obtain ⟨a, vs, rfl, h1, h2⟩ := he; cases (show u = Value.ref a from ry); obtain ⟨_, its, _, h3⟩ := (show ObjOk P w H s.heap a (.tup vs) from hok a _ h1); simp only [pyEq]; exact RcNeAt.str_tuple _ _ h3 hu0
    | lst cs =>
      simp only [Rep] at hd
      obtain ⟨b, ws, rfl, g1, g2⟩ := hd
      cases (show v = Value.ref b from rx)
      obtain ⟨_, jts, m, g4, g3⟩ := (show ObjOk P w H s.heap b (.lst ws) from hok b _ g1)
      have gl : s.heap.IsList b jts.toArray := ⟨_, g3, rfl, m, rfl⟩
      cases e with
      | dct => simp only [D.dep] at hn'; omega
      | non => simp only [Rep] at he; subst he; cases (show u = Value.none from ry); simp only [pyEq]; exact RcNeAt.list_none gl hu0
      | bl b => simp only [Rep] at he; subst he; cases (show u = Value.bool b from ry); simp only [pyEq]; exact RcNeAt.list_bool _ gl hu0
      | int b => simp only [Rep] at he; subst he; obtain ⟨t, rfl⟩ := ry; simp only [pyEq]; exact RcNeAt.list_int _ _ gl hu0
      | str b => simp only [Rep] at he; subst he; obtain ⟨t, rfl⟩ := ry; simp only [pyEq]; exact RcNeAt.list_str _ _ gl hu0
      | lst ds =>
        simp only [Rep] at he
        obtain ⟨a, vs, rfl, h1, h2⟩ := he
        cases (show u = Value.ref a from ry)
        obtain ⟨_, its, k, h4, h3⟩ := (show ObjOk P w H s.heap a (.lst vs) from hok a _ h1)
        simp only [pyEq]
        have l1 := g2.length
        have l2 := h2.length
        have l3 := g4.length
        have l4 := h4.length
        by_cases hl : cs.length = ds.length
        · rw [← pyEqs_range hl]
          have e1 : cs.length = jts.toArray.size := by rw [List.size_toArray]; omega
          rw [e1]
          exact RcNeAt.lists gl ⟨_, h3, rfl, k, rfl⟩ (by rw [List.size_toArray, List.size_toArray]; omega) hu0 (items (by simp only [D.dep] at hn; omega) (by simp only [D.dep] at hn'; omega) g2 h2 g4 h4)
        · rw [pyEqs_len hl]
          exact RcNeAt.lists_lengths (items2 := its.toArray) gl ⟨_, h3, rfl, k, rfl⟩ (by rw [List.size_toArray, List.size_toArray]; exact bne_iff_ne.mpr (by omega)) hu0
      | tup ds => simp only [Rep] at he; obtain ⟨a, vs, rfl, h1, h2⟩ := he; cases (show u = Value.ref a from ry); obtain ⟨_, its, _, h3⟩ := (show ObjOk P w H s.heap a (.tup vs) from hok a _ h1); simp only [pyEq]; exact RcNeAt.list_tuple gl h3 hu0
    | tup cs =>
      simp only [Rep] at hd
      obtain ⟨b, ws, rfl, g1, g2⟩ := hd
      cases (show v = Value.ref b from rx)
      obtain ⟨_, jts, g4, gl⟩ := (show ObjOk P w H s.heap b (.tup ws) from hok b _ g1)
      cases e with
      | dct => simp only [D.dep] at hn'; omega
      | non => simp only [Rep] at he; subst he; cases (show u = Value.none from ry); simp only [pyEq]; exact RcNeAt.tuple_none gl hu0
      | bl b => simp only [Rep] at he; subst he; cases (show u = Value.bool b from ry); simp only [pyEq]; exact RcNeAt.tuple_bool _ gl hu0
      | int b => simp only [Rep] at he; subst he; obtain ⟨t, rfl⟩ := ry; simp only [pyEq]; exact RcNeAt.tuple_int _ _ gl hu0
      | str b => simp only [Rep] at he; subst he; obtain ⟨t, rfl⟩ := ry; simp only [pyEq]; exact RcNeAt.tuple_str _ _ gl hu0
      | lst ds => simp only [Rep] at he; obtain ⟨a, vs, rfl, h1, h2⟩ := he; cases (show u = Value.ref a from ry); obtain ⟨_, its, k, _, h3⟩ := (show ObjOk P w H s.heap a (.lst vs) from hok a _ h1); simp only [pyEq]; exact RcNeAt.tuple_list (items2 := its.toArray) gl ⟨_, h3, rfl, k, rfl⟩ hu0
      | tup ds =>
        simp only [Rep] at he
        obtain ⟨a, vs, rfl, h1, h2⟩ := he
        cases (show u = Value.ref a from ry)
        obtain ⟨_, its, h4, h3⟩ := (show ObjOk P w H s.heap a (.tup vs) from hok a _ h1)
        simp only [pyEq]
        have l1 := g2.length
        have l2 := h2.length
        have l3 := g4.length
        have l4 := h4.length
        rw [← len_min_all (n := jts.toArray.size) (m := its.toArray.size) (by rw [List.size_toArray]; omega) (by rw [List.size_toArray]; omega) rfl]
        exact RcNeAt.tuples gl h3 hu0 (items (by simp only [D.dep] at hn; omega) (by simp only [D.dep] at hn'; omega) g2 h2 g4 h4)
section
variable {X : Cx}
/-- == and != of plain data -/
def rEqD : R2 := fun x y H Q => ∃ d e, Rep H d x ∧ Rep H e y ∧ d.dep ≤ 100 ∧ e.dep ≤ 100 ∧ Q (.bl (pyEq d e)) H
def rNeD : R2 := fun x y H Q => ∃ d e, Rep H d x ∧ Rep H e y ∧ d.dep ≤ 100 ∧ e.dep ≤ 100 ∧ Q (.bl (!pyEq d e)) H
theorem o_eqD (hu : X.A.units + 100 < cLine) : OpR X (compareOp .Eq) rEqD := by
  intro pins s σ H x y v u Q I rx ry h
  obtain ⟨d, e, hd, he, hn, hn', q⟩ := h
  show wpAny _ _ (richCompare .Eq _ _) _ _ s
  exact rep_rc 100 I.hok hn hn' (by decide) hd he rx ry hu _ _ _ _ ⟨.bl (pyEq d e), H, I, rfl, q⟩
theorem o_neD (hu : X.A.units + 100 < cLine) : OpR X (compareOp .NotEq) rNeD := by
  intro pins s σ H x y v u Q I rx ry h
  obtain ⟨d, e, hd, he, hn, hn', q⟩ := h
  show wpAny _ _ (richCompare .NotEq _ _) _ _ s
  exact rep_rcne 100 I.hok hn hn' (by decide) hd he rx ry hu _ _ _ _ ⟨.bl (!pyEq d e), H, I, rfl, q⟩
end
end L2

set_option Elab.async false
set_option linter.all false
set_option maxRecDepth 100000
set_option maxHeartbeats 4000000
namespace L2
open PySem PySem.Spec PyProof.Rows
/-! ### what kind a thing is -/
theorem kit_non_str (K : PySem.W.Frag) : PySem.W.kitOne K (.type "NoneType") (.type "str") = some false := by kernel_rfl
theorem kit_non_int (K : PySem.W.Frag) : PySem.W.kitOne K (.type "NoneType") (.type "int") = some false := by kernel_rfl
theorem kit_non_bool (K : PySem.W.Frag) : PySem.W.kitOne K (.type "NoneType") (.type "bool") = some false := by kernel_rfl
theorem kit_non_tuple (K : PySem.W.Frag) : PySem.W.kitOne K (.type "NoneType") (.type "tuple") = some false := by kernel_rfl
theorem kit_non_list (K : PySem.W.Frag) : PySem.W.kitOne K (.type "NoneType") (.type "list") = some false := by kernel_rfl
theorem kit_non_dict (K : PySem.W.Frag) : PySem.W.kitOne K (.type "NoneType") (.type "dict") = some false := by kernel_rfl
theorem kit_bl_str (K : PySem.W.Frag) : PySem.W.kitOne K (.type "bool") (.type "str") = some false := by kernel_rfl
theorem kit_bl_int (K : PySem.W.Frag) : PySem.W.kitOne K (.type "bool") (.type "int") = some true := by kernel_rfl
theorem kit_bl_bool (K : PySem.W.Frag) : PySem.W.kitOne K (.type "bool") (.type "bool") = some true := by kernel_rfl
theorem kit_bl_tuple (K : PySem.W.Frag) : PySem.W.kitOne K (.type "bool") (.type "tuple") = some false := by kernel_rfl
theorem kit_bl_list (K : PySem.W.Frag) : PySem.W.kitOne K (.type "bool") (.type "list") = some false := by kernel_rfl
theorem kit_bl_dict (K : PySem.W.Frag) : PySem.W.kitOne K (.type "bool") (.type "dict") = some false := by kernel_rfl
theorem kit_int_str (K : PySem.W.Frag) : PySem.W.kitOne K (.type "int") (.type "str") = some false := by kernel_rfl
theorem kit_int_int (K : PySem.W.Frag) : PySem.W.kitOne K (.type "int") (.type "int") = some true := by kernel_rfl
theorem kit_int_bool (K : PySem.W.Frag) : PySem.W.kitOne K (.type "int") (.type "bool") = some false := by kernel_rfl
theorem kit_int_tuple (K : PySem.W.Frag) : PySem.W.kitOne K (.type "int") (.type "tuple") = some false := by kernel_rfl
theorem kit_int_list (K : PySem.W.Frag) : PySem.W.kitOne K (.type "int") (.type "list") = some false := by kernel_rfl
theorem kit_int_dict (K : PySem.W.Frag) : PySem.W.kitOne K (.type "int") (.type "dict") = some false := by kernel_rfl
theorem kit_str_str (K : PySem.W.Frag) : PySem.W.kitOne K (.type "str") (.type "str") = some true := by kernel_rfl
theorem kit_str_int (K : PySem.W.Frag) : PySem.W.kitOne K (.type "str") (.type "int") = some false := by kernel_rfl
theorem kit_str_bool (K : PySem.W.Frag) : PySem.W.kitOne K (.type "str") (.type "bool") = some false := by kernel_rfl
theorem kit_str_tuple (K : PySem.W.Frag) : PySem.W.kitOne K (.type "str") (.type "tuple") = some false := by kernel_rfl
theorem kit_str_list (K : PySem.W.Frag) : PySem.W.kitOne K (.type "str") (.type "list") = some false := by kernel_rfl
theorem kit_str_dict (K : PySem.W.Frag) : PySem.W.kitOne K (.type "str") (.type "dict") = some false := by kernel_rfl
theorem kit_lst_str (K : PySem.W.Frag) : PySem.W.kitOne K (.type "list") (.type "str") = some false := by kernel_rfl
theorem kit_lst_int (K : PySem.W.Frag) : PySem.W.kitOne K (.type "list") (.type "int") = some false := by kernel_rfl
theorem kit_lst_bool (K : PySem.W.Frag) : PySem.W.kitOne K (.type "list") (.type "bool") = some false := by kernel_rfl
theorem kit_lst_tuple (K : PySem.W.Frag) : PySem.W.kitOne K (.type "list") (.type "tuple") = some false := by kernel_rfl
theorem kit_lst_list (K : PySem.W.Frag) : PySem.W.kitOne K (.type "list") (.type "list") = some true := by kernel_rfl
theorem kit_lst_dict (K : PySem.W.Frag) : PySem.W.kitOne K (.type "list") (.type "dict") = some false := by kernel_rfl
theorem kit_tup_str (K : PySem.W.Frag) : PySem.W.kitOne K (.type "tuple") (.type "str") = some false := by kernel_rfl
theorem kit_tup_int (K : PySem.W.Frag) : PySem.W.kitOne K (.type "tuple") (.type "int") = some false := by kernel_rfl
theorem kit_tup_bool (K : PySem.W.Frag) : PySem.W.kitOne K (.type "tuple") (.type "bool") = some false := by kernel_rfl
theorem kit_tup_tuple (K : PySem.W.Frag) : PySem.W.kitOne K (.type "tuple") (.type "tuple") = some true := by kernel_rfl
theorem kit_tup_list (K : PySem.W.Frag) : PySem.W.kitOne K (.type "tuple") (.type "list") = some false := by kernel_rfl
theorem kit_tup_dict (K : PySem.W.Frag) : PySem.W.kitOne K (.type "tuple") (.type "dict") = some false := by kernel_rfl
theorem kit_dK_str (K : PySem.W.Frag) : PySem.W.kitOne K (.type "dict") (.type "str") = some false := by kernel_rfl
theorem kit_dK_int (K : PySem.W.Frag) : PySem.W.kitOne K (.type "dict") (.type "int") = some false := by kernel_rfl
theorem kit_dK_bool (K : PySem.W.Frag) : PySem.W.kitOne K (.type "dict") (.type "bool") = some false := by kernel_rfl
theorem kit_dK_tuple (K : PySem.W.Frag) : PySem.W.kitOne K (.type "dict") (.type "tuple") = some false := by kernel_rfl
theorem kit_dK_list (K : PySem.W.Frag) : PySem.W.kitOne K (.type "dict") (.type "list") = some false := by kernel_rfl
theorem kit_dK_dict (K : PySem.W.Frag) : PySem.W.kitOne K (.type "dict") (.type "dict") = some true := by kernel_rfl

section
variable {X : Cx} {K : PySem.W.Frag} {σ : St} {H : Hp} {D : Ends} {Q : VK} {E : XK}
def rIs (K : PySem.W.Frag) : List V → Hp → VK → Prop := fun xs H Q => ∃ x T t b, xs = [x, .ty T] ∧ TyOf K H x t ∧ PySem.W.kitOne K t (.type T) = some b ∧ Q (.bl b) H
theorem c_isinst : CallR X (.builtin "isinstance") (rIs X.K) := call_isinst
theorem rd_is {x : V} {T : String} {t : Value} {b : Bool} (ty : TyOf K H x t) (hk : PySem.W.kitOne K t (.type T) = some b) (h : Q (.bl b) H) : rIs K [x, .ty T] H Q := ⟨x, T, t, b, rfl, ty, hk, h⟩
def rLen (K : PySem.W.Frag) : List V → Hp → VK → Prop := fun xs H Q => ∃ x n, xs = [x] ∧ LenV K x H n ∧ Q (.int n) H
theorem c_len : CallR X (.builtin "len") (rLen X.K) := call_len
theorem rd_lenS {z : Str} (hz : z.length ≤ sizeLine) (h : Q (.int z.length) H) : rLen K [.str z] H Q := ⟨_, _, rfl, ⟨hz, rfl⟩, h⟩
theorem rd_lenL {a : Addr} {xs : List V} (e : SqL K H a xs) (h : Q (.int xs.length) H) : rLen K [.ref a] H Q := ⟨_, _, rfl, .inl ⟨xs, e, rfl⟩, h⟩
theorem rd_lenT {a : Addr} {xs : List V} (e : SqT K H a xs) (h : Q (.int xs.length) H) : rLen K [.ref a] H Q := ⟨_, _, rfl, .inr ⟨xs, e, rfl⟩, h⟩
def rMax : List V → Hp → VK → Prop := fun xs H Q => ∃ i j, xs = [.int i, .int j] ∧ Q (.int (max i j)) H
def rMin : List V → Hp → VK → Prop := fun xs H Q => ∃ i j, xs = [.int i, .int j] ∧ Q (.int (min i j)) H
theorem c_min (hc : X.calm = true) : CallR X (.builtin "min") rMin := fun pins s σ H xs us Q I r h => call_min2 hc pins s σ H xs us Q I r (by
  obtain ⟨i, j, e, h⟩ := h
  refine ⟨i, j, e, ?_⟩
  rw [show (if j < i then j else i) = min i j by split <;> omega]
  exact h)
theorem rd_max {i j : Int} (h : Q (.int (max i j)) H) : rMax [.int i, .int j] H Q := ⟨i, j, rfl, h⟩
theorem rd_min {i j : Int} (h : Q (.int (min i j)) H) : rMin [.int i, .int j] H Q := ⟨i, j, rfl, h⟩
def rStrI : List V → Hp → VK → Prop := fun xs H Q => ∃ i, xs = [.int i] ∧ i.natAbs.log2 < 1920 ∧ Q (.str (toString i)) H
theorem c_str : CallR X (.type "str") rStrI := call_str_int
theorem rd_str {i : Int} (hz : i.natAbs.log2 < 1920) (h : Q (.str (toString i)) H) : rStrI [.int i] H Q := ⟨i, rfl, hz, h⟩
/-! the frame of statements and tests -/
theorem rd_call {sp : Sp} {t : TA} (h : t σ H fun vs H1 => sp vs H1 Q E) : tCall sp [] E t σ H Q := by
  unfold tCall
  simp only [List.append_nil]
  exact h
def mkT (xs : List V) (H : Hp) (Q : VK) : Prop := xs.length ≤ sizeLine ∧ ∀ p H1, Same H H1 → H1 p = some (.tup xs) → Q (.ref p) H1
def mkL (xs : List V) (H : Hp) (Q : VK) : Prop := xs.length ≤ sizeLine ∧ ∀ p H1, H p = none → Same H H1 → H1 p = some (.lst xs) → Q (.ref p) H1
def tTupM (t : TA) : TE := fun σ H Q => t σ H fun xs H1 => mkT xs H1 Q
def tLstM (t : TA) : TE := fun σ H Q => t σ H fun xs H1 => mkL xs H1 Q
theorem pe_tupM {es : List Expr} {t : TA} {x1} {pos : Pos} (h : PA X es t) : PE X (.Tuple es x1 pos) (tTupM t) := fun pins s σ H Q I hq =>
  wpAny_Tuple_spliced (thn (h pos pins s σ H _ I hq) fun us s1 ⟨xs, H1, I1, r, z, q⟩ => by
    have hf : H1 s1.heap.objs.size = none := I1.fresh
    exact ⟨r.length ▸ z, .ref s1.heap.objs.size, _, I1.laid (o := .tup xs) (t' := s1.toks) (fun b u => Heap.get?_push_of_some _) (Nat.le_refl _) ⟨z, us, r, _, Heap.get?_push_size _ rfl, rfl, _, rfl⟩, rfl, q _ _ (same_new hf) upd_same⟩)
theorem pe_lstM {es : List Expr} {t : TA} {pos : Pos} (h : PA X es t) : PE X (.List es pos) (tLstM t) := fun pins s σ H Q I hq =>
  wpAny_List_spliced (thn (h pos pins s σ H _ I hq) fun us s1 ⟨xs, H1, I1, r, z, q⟩ => by
    have hf : H1 s1.heap.objs.size = none := I1.fresh
    exact ⟨r.length ▸ z, .ref s1.heap.objs.size, _, I1.laid (o := .lst xs) (t' := s1.toks) (fun b u => Heap.get?_push_of_some _) (Nat.le_refl _) ⟨z, us, 0, r, Heap.get?_push_size _ rfl⟩, rfl, q _ _ hf (same_new hf) upd_same⟩)
theorem rd_mkT {xs : List V} (hz : xs.length ≤ sizeLine) (h : ∀ p H1, Same H H1 → H1 p = some (.tup xs) → Q (.ref p) H1) : mkT xs H Q := ⟨hz, h⟩
theorem rd_mkL {xs : List V} (hz : xs.length ≤ sizeLine) (h : ∀ p H1, H p = none → Same H H1 → H1 p = some (.lst xs) → Q (.ref p) H1) : mkL xs H Q := ⟨hz, h⟩
/-! places and slices -/
theorem rd_ixL {a : Addr} {xs : List V} {i : Int} {v : V} (e : SqL K H a xs) (g : atI xs i = some v) (h : Q v H) : rIx K (.ref a) (.int i) H Q := .inl ⟨a, xs, i, v, rfl, rfl, e, g, h⟩
theorem rd_ixT {a : Addr} {xs : List V} {i : Int} {v : V} (e : SqT K H a xs) (g : atI xs i = some v) (h : Q v H) : rIx K (.ref a) (.int i) H Q := .inr (.inl ⟨a, xs, i, v, rfl, rfl, e, g, h⟩)
def Menu : List V → Int → Int → (V → Prop) → Prop
  | [], _, _, _ => True
  | x :: xs, k, i, P => (i = k → P x) ∧ Menu xs (k + 1) i P
theorem menu_get : ∀ {xs : List V} {k i : Int} {P : V → Prop}, k ≤ i → i < k + xs.length → Menu xs k i P → ∃ v, xs[(i - k).toNat]? = some v ∧ P v
  | [], k, i, P, h0, h1, _ => by simp at h1; omega
  | x :: xs, k, i, P, h0, h1, h => by
    by_cases e : i = k
    · subst e
      exact ⟨x, by simp, h.1 rfl⟩
    · obtain ⟨v, e1, e2⟩ := menu_get (xs := xs) (k := k + 1) (i := i) (P := P) (by omega) (by rw [List.length_cons] at h1; omega) h.2
      refine ⟨v, ?_, e2⟩
      rw [show (i - k).toNat = (i - (k + 1)).toNat + 1 by omega]
      simpa using e1
theorem rd_menu {a : Addr} {xs : List V} {i : Int} (e : SqL K H a xs) (h0 : 0 ≤ i) (h1 : i < xs.length) (h : Menu xs 0 i fun v => Q v H) : rIx K (.ref a) (.int i) H Q := by
  obtain ⟨v, e1, e2⟩ := menu_get h0 (by omega) h
  refine rd_ixL e (v := v) ?_ e2
  obtain ⟨j, rfl⟩ : ∃ j : Nat, i = j := ⟨i.toNat, by omega⟩
  exact atI_nat (by simpa using e1)
theorem rd_slS {z : Str} {lo hi : Option Int} (hz : z.length ≤ sizeLine) (h : Q (.str (Txt.slice z lo hi)) H) : rSlP K (.str z) lo hi H Q := .inl ⟨z, rfl, hz, h⟩
theorem rd_slL {a : Addr} {xs : List V} {lo hi : Option Int} (e : SqL K H a xs) (h : ∀ p H1, H p = none → Same H H1 → H1 p = some (.lst (cutV xs lo hi)) → Q (.ref p) H1) : rSlP K (.ref a) lo hi H Q :=
  .inr (.inl ⟨a, xs, rfl, e, fun p hp => h p _ hp (same_new hp) upd_same⟩)
theorem rd_slT {a : Addr} {xs : List V} {lo hi : Option Int} (e : SqT K H a xs) (hc : ¬ (HT.sIx xs.length 0 lo = 0 ∧ HT.sIx xs.length xs.length hi = xs.length)) (h : ∀ p H1, Same H H1 → H1 p = some (.tup (cutV xs lo hi)) → Q (.ref p) H1) : rSlP K (.ref a) lo hi H Q :=
  .inr (.inr ⟨a, xs, rfl, e, hc, fun p hp => h p _ (same_new hp) upd_same⟩)
/-! is -/
def rIsP : R2 := fun x y H Q => (y = .non ∧ Q (.bl (decide (x = .non))) H) ∨ (∃ i j, x = .bl i ∧ y = .bl j ∧ Q (.bl (i == j)) H)
def rIsntP : R2 := fun x y H Q => (y = .non ∧ Q (.bl (!decide (x = .non))) H) ∨ (∃ i j, x = .bl i ∧ y = .bl j ∧ Q (.bl (i != j)) H)
theorem o_is : OpR X (compareOp .Is) rIsP := op_isN.or op_is_bl
theorem o_isnt : OpR X (compareOp .IsNot) rIsntP := op_notN.or op_isnot_bl
theorem rd_isN {x : V} (h : Q (.bl (decide (x = .non))) H) : rIsP x .non H Q := .inl ⟨rfl, h⟩
theorem rd_isB {i j : Bool} (h : Q (.bl (i == j)) H) : rIsP (.bl i) (.bl j) H Q := .inr ⟨i, j, rfl, rfl, h⟩
theorem rd_isntN {x : V} (h : Q (.bl (!decide (x = .non))) H) : rIsntP x .non H Q := .inl ⟨rfl, h⟩
theorem rd_isntB {i j : Bool} (h : Q (.bl (i != j)) H) : rIsntP (.bl i) (.bl j) H Q := .inr ⟨i, j, rfl, rfl, h⟩
/-! == -/
theorem rd_eqI {i j : Int} (h : Q (.bl (decide (i = j))) H) : rEqD (.int i) (.int j) H Q := ⟨.int i, .int j, by simp only [Rep], by simp only [Rep], by simp [D.dep], by simp [D.dep], by simp only [pyEq]; rw [Bool.beq_eq_decide_eq]; exact h⟩
theorem rd_eqS {i j : Str} (h : Q (.bl (decide (i = j))) H) : rEqD (.str i) (.str j) H Q := ⟨.str i, .str j, by simp only [Rep], by simp only [Rep], by simp [D.dep], by simp [D.dep], by simp only [pyEq]; rw [Bool.beq_eq_decide_eq]; exact h⟩
theorem rd_eqB {i j : Bool} (h : Q (.bl (i == j)) H) : rEqD (.bl i) (.bl j) H Q := ⟨.bl i, .bl j, by simp only [Rep], by simp only [Rep], by simp [D.dep], by simp [D.dep], by simp only [pyEq]; exact h⟩
theorem rd_neI {i j : Int} (h : Q (.bl (!decide (i = j))) H) : rNeD (.int i) (.int j) H Q := ⟨.int i, .int j, by simp only [Rep], by simp only [Rep], by simp [D.dep], by simp [D.dep], by simp only [pyEq]; rw [Bool.beq_eq_decide_eq]; exact h⟩
theorem rd_neS {i j : Str} (h : Q (.bl (!decide (i = j))) H) : rNeD (.str i) (.str j) H Q := ⟨.str i, .str j, by simp only [Rep], by simp only [Rep], by simp [D.dep], by simp [D.dep], by simp only [pyEq]; rw [Bool.beq_eq_decide_eq]; exact h⟩
theorem rd_neB {i j : Bool} (h : Q (.bl (!(i == j))) H) : rNeD (.bl i) (.bl j) H Q := ⟨.bl i, .bl j, by simp only [Rep], by simp only [Rep], by simp [D.dep], by simp [D.dep], by simp only [pyEq]; exact h⟩
/-! the beginning -/
theorem start_cc {n : Str} {N : List Str} {v : V} {vs : List V} : start (n :: N) (v :: vs) = some v :: start N vs := by simp [start]
theorem start_cn {n : Str} {N : List Str} : start (n :: N) [] = none :: start N [] := by simp [start, List.replicate_succ]
theorem start_nn : start [] [] = [] := rfl
theorem cxK {CX : CXT} {P : Program} {w : World} {K : PySem.W.Frag} {mg : Str → Option Value} {base : Heap} {N : List Str} {q : Str} {sc : Scope} {f : Addr} {cd : Value} {A : Around} {outer : List Env} {s : Shared} {H : Hp} {E : XK} : (cxOf CX P w K mg base N q sc f cd A outer s H E).nox.K = K := rfl
theorem cxK' {CX : CXT} {P : Program} {w : World} {K : PySem.W.Frag} {mg : Str → Option Value} {base : Heap} {N : List Str} {q : Str} {sc : Scope} {f : Addr} {cd : Value} {A : Around} {outer : List Env} {s : Shared} {H : Hp} {E : XK} : (cxOf CX P w K mg base N q sc f cd A outer s H E).K = K := rfl
theorem compK {X : Cx} {sc : Scope} {N : List Str} {C : Addr} {s : Shared} {H : Hp} {ex : List Addr} : (X.comp sc N C s H ex).K = X.K := rfl
theorem room100 {k : Nat} {A : Around} (r : Room k A) : A.units + 100 < cLine := by have := r.un; omega
/-! an if by what it asks -/
theorem ite_dec {p A B : Prop} [Decidable p] (h1 : p → A) (h2 : ¬ p → B) : if decide p = true then A else B := ite2 (fun h => h1 (of_decide_eq_true h)) fun h => h2 (fun z => h (decide_eq_true z))
end
end L2

set_option Elab.async false
set_option linter.all false
set_option maxRecDepth 100000
set_option maxHeartbeats 4000000
namespace L2
open PySem PySem.Spec PyProof.Rows
section
variable {X : Cx} {K : PySem.W.Frag} {σ : St} {H : Hp} {D : Ends} {Q : VK} {E : XK}
theorem iteNT {A B : Prop} (h : B) : if (!true) = true then A else B := by simpa using h
theorem iteNF {A B : Prop} (h : A) : if (!false) = true then A else B := by simpa using h
/-- an argument list, in a box: so that nobody looks into what is to be shown -/
structure PAw (X : Cx) (es : List Expr) (t : TA) : Prop where
  h : PA X es t
section
variable {x : Str} {st : Stmt} {ps : List Str} {f : Addr} {fd : FuncData} {k : Nat} {sp : Sp} {e : Expr} {es : List Expr} {t : TA} {p pos : Pos} {id T : String} {r : List V → Hp → VK → Prop}
end
/-! ### loops -/
def ForW (J : It) (g : TG) (tb : TS) (D : Ends) (σ : St) (H : Hp) : Prop := ∃ W : Nat → Nat → St → Hp → Prop, (∃ m, W 0 m σ H) ∧ ∀ i m σ H, W i m σ H →
  (J.stop i H ∧ D.nx σ H) ∨ (J.go i H ∧ ∃ N : St → Hp → Prop, (∀ σ' H', N σ' H' → ∃ m', m' < m ∧ W (i + 1) m' σ' H') ∧ ∀ x H', J.yld i H x H' → g x σ H' fun σ2 H2 => tb { D with nx := N, ct := N, bk := D.nx } σ2 H2)
theorem rd_gTup {n : Nat} {t : TGs} {a : Addr} {xs : List V} {R : St → Hp → Prop} (e : SqT K H a xs) (hn : xs.length = n) (h : t xs σ H R) : gTup K n t (.ref a) σ H R := ⟨a, xs, rfl, e, hn, h⟩
theorem rd_exL {a : Addr} {xs : List V} {P : Addr → Prop} (e : SqL K H a xs) (h : P a) : ∃ b, V.ref a = V.ref b ∧ (∃ xs, SqL K H b xs) ∧ P b := ⟨a, rfl, ⟨xs, e⟩, h⟩
theorem rd_exT {a : Addr} {xs : List V} {P : Addr → Prop} (e : SqT K H a xs) (h : P a) : ∃ b, V.ref a = V.ref b ∧ (∃ xs, SqT K H b xs) ∧ P b := ⟨a, rfl, ⟨xs, e⟩, h⟩
theorem rd_exr1 {j : Int} {P : Int → Prop} (h1 : -(2 ^ 62) ≤ j ∧ j < 2 ^ 62) (h : P j) : ∃ k : Int, [V.int j] = [.int k] ∧ -(2 ^ 62) ≤ k ∧ k < 2 ^ 62 ∧ P k := ⟨j, rfl, h1.1, h1.2, h⟩
theorem rd_exr2 {i j : Int} {P : Int → Int → Prop} (h1 : -(2 ^ 62) ≤ i ∧ i < 2 ^ 62 ∧ -(2 ^ 62) ≤ j ∧ j < 2 ^ 62) (h : P i j) : ∃ i' j' : Int, [V.int i, V.int j] = [.int i', .int j'] ∧ (-(2 ^ 62) ≤ i' ∧ i' < 2 ^ 62 ∧ -(2 ^ 62) ≤ j' ∧ j' < 2 ^ 62) ∧ P i' j' := ⟨i, j, rfl, h1, h⟩
/-- for over a list that stays as it is -/
theorem forL {a : Addr} {xs : List V} {g : TG} {tb : TS} (Pv : Nat → St → Hp → Prop) (h0 : Pv 0 σ H) (hl : ∀ i σ H, Pv i σ H → SqL K H a xs)
    (hs : ∀ i x σ H, i < xs.length → xs[i]? = some x → Pv i σ H → g x σ H fun σ2 H2 => tb { nx := Pv (i + 1), rt := D.rt, ct := Pv (i + 1), bk := D.nx } σ2 H2) (hd : ∀ σ H, Pv xs.length σ H → D.nx σ H) : ForW (Itl K a) g tb D σ H :=
  for_list Pv h0 (fun i σ H _ => hl i σ H) (fun i x σ H e p => hs i x σ H (List.getElem?_eq_some_iff.mp e).1 e p) hd
theorem forR {lo : Int} {n : Nat} {g : TG} {tb : TS} (Pv : Nat → St → Hp → Prop) (h0 : Pv 0 σ H)
    (hs : ∀ i σ H, i < n → Pv i σ H → g (.int (lo + i)) σ H fun σ2 H2 => tb { nx := Pv (i + 1), rt := D.rt, ct := Pv (i + 1), bk := D.nx } σ2 H2) (hd : ∀ σ H, Pv n σ H → D.nx σ H) : ForW (Itr lo n) g tb D σ H :=
  for_range Pv h0 hs hd
/-! ### comprehensions -/
/-! ### built-ins -/
def rAll (K : PySem.W.Frag) : List V → Hp → VK → Prop := fun xs H Q => ∃ (p : Addr) (bs : List Bool), xs = [.ref p] ∧ SqL K H p (bs.map V.bl) ∧ Q (.bl (bs.all id)) H
def rList (K : PySem.W.Frag) : List V → Hp → VK → Prop := fun xs H Q => ∃ p ys, xs = [.ref p] ∧ (SqL K H p ys ∨ SqT K H p ys) ∧ ∀ l, H l = none → Q (.ref l) (upd H l (.lst ys))
theorem c_list : CallR X (.type "list") (rList X.K) := call_list_of
theorem rd_listL {p : Addr} {ys : List V} (e : SqL K H p ys) (h : ∀ l H1, H l = none → Same H H1 → H1 l = some (.lst ys) → Q (.ref l) H1) : rList K [.ref p] H Q := ⟨p, ys, rfl, .inl e, fun l hl => h l _ hl (same_new hl) upd_same⟩
theorem rd_listT {p : Addr} {ys : List V} (e : SqT K H p ys) (h : ∀ l H1, H l = none → Same H H1 → H1 l = some (.lst ys) → Q (.ref l) H1) : rList K [.ref p] H Q := ⟨p, ys, rfl, .inr e, fun l hl => h l _ hl (same_new hl) upd_same⟩
def tDM : TE := fun _ H Q => ∀ d H1, H d = none → Same H H1 → H1 d = some (.dK []) → Q (.ref d) H1
theorem rd_dnew (h : ∀ d H1, H d = none → Same H H1 → H1 d = some (.dK []) → Q (.ref d) H1) : tDM σ H Q := h
end
/-! ### keys, values, stamps, entries and deeds, over plain data -/
mutual
def smD : L2.D → Bool
  | .str z => decide (z.length ≤ sizeLine)
  | .lst ds => smDs ds
  | .tup ds => smDs ds
  | _ => true
def smDs : List L2.D → Bool
  | [] => true
  | d :: ds => smD d && smDs ds
end
def plainD (d : L2.D) (lo hi : Int) : Bool := match d with
  | .str z => plainB z lo hi
  | _ => false
def stampD : L2.D → Bool
  | .int i => decide (1 ≤ i ∧ i ≤ 999999999)
  | _ => false
def valD : L2.D → Bool
  | .non => true
  | d => plainD d 0 40
def entryD : L2.D → Bool
  | .tup [a, b, c] => plainD a 1 20 && stampD b && valD c
  | _ => false
def wordD (d : L2.D) (x : Str) : Bool := match d with
  | .str z => decide (z = x)
  | _ => false
def deedD : L2.D → Bool
  | .tup [a, b, c] => wordD a "put" && plainD b 1 20 && plainD c 0 40
  | .tup [a, b] => wordD a "drop" && plainD b 1 20
  | _ => false
theorem Same.get {H H1 : Hp} {p : Addr} {o : HO} (s : Same H H1) (e : H p = some o) : H1 p = some o := s p o e
theorem Same.tr {H H1 H2 : Hp} (s : Same H1 H2) (e : Same H H1) : Same H H2 := fun p o h => s p o (e p o h)
theorem Rep.int' {H : Hp} {i : Int} : Rep H (.int i) (.int i) := by simp only [Rep]
theorem Rep.str' {H : Hp} {i : Str} : Rep H (.str i) (.str i) := by simp only [Rep]
theorem Rep.bl' {H : Hp} {i : Bool} : Rep H (.bl i) (.bl i) := by simp only [Rep]
theorem Rep.non' {H : Hp} : Rep H .non .non := by simp only [Rep]
theorem Rep.mkT {H : Hp} {p : Addr} {vs : List V} {ds : List L2.D} (h : H p = some (.tup vs)) (r : Reps H ds vs) : Rep H (.tup ds) (.ref p) := by simp only [Rep]; exact ⟨p, vs, rfl, h, r⟩
theorem Rep.mkL {H : Hp} {p : Addr} {vs : List V} {ds : List L2.D} (h : H p = some (.lst vs)) (r : Reps H ds vs) : Rep H (.lst ds) (.ref p) := by simp only [Rep]; exact ⟨p, vs, rfl, h, r⟩
theorem Rep.mkD {H : Hp} {p : Addr} {kvs : List (Key × V)} (h : H p = some (.dK kvs)) : Rep H .dct (.ref p) := by simp only [Rep]; exact ⟨p, kvs, rfl, h⟩
theorem Reps.nil' {H : Hp} : Reps H [] [] := by simp only [Reps]
theorem Reps.cons' {H : Hp} {d : L2.D} {v : V} {ds : List L2.D} {vs : List V} (h : Rep H d v) (r : Reps H ds vs) : Reps H (d :: ds) (v :: vs) := by simp only [Reps]; exact ⟨v, vs, rfl, h, r⟩
theorem Reps.consE {H : Hp} {d : L2.D} {ds : List L2.D} {vs : List V} (h : Reps H (d :: ds) vs) : ∃ v r, vs = v :: r ∧ Rep H d v ∧ Reps H ds r := by simp only [Reps] at h; exact h
theorem Reps.nilE {H : Hp} {vs : List V} (h : Reps H [] vs) : vs = [] := by simp only [Reps] at h; exact h
theorem SqL.same {K : PySem.W.Frag} {H H' : Hp} {a : Addr} {xs : List V} (s : Same H H') (e : SqL K H a xs) : SqL K H' a xs := s.seq e
end L2

set_option Elab.async false
set_option linter.all false
set_option maxRecDepth 100000
set_option maxHeartbeats 4000000
namespace L2
open PySem PySem.Spec PyProof.Rows
/-! ### one step of a reading, found by its head -/
class RdS (g : Prop) (n : outParam Prop) : Prop where
  imp : n → g
theorem rd_go {g n : Prop} [h : RdS g n] (k : n) : g := h.imp k
class GetS (σ : St) (i : Nat) (v : outParam V) : Prop where
  get : σ[i]? = some (some v)
instance GetS.zero {v : V} {r : St} : GetS (some v :: r) 0 v := ⟨rfl⟩
instance GetS.succ {x : Option V} {r : St} {i : Nat} {v : V} [h : GetS r i v] : GetS (x :: r) (i + 1) v := ⟨by rw [List.getElem?_cons_succ]; exact h.get⟩
class SetS (σ : St) (i : Nat) (v : Option V) (σ' : outParam St) : Prop where
  set : σ.set i v = σ'
instance SetS.zero {x v : Option V} {r : St} : SetS (x :: r) 0 v (v :: r) := ⟨rfl⟩
instance SetS.succ {x v : Option V} {r r' : St} {i : Nat} [h : SetS r i v r'] : SetS (x :: r) (i + 1) v (x :: r') := ⟨by rw [List.set_cons_succ, h.set]⟩
class PickS (ix : List Nat) (σ : St) (σ' : outParam St) : Prop where
  eq : pick ix σ = σ'
instance PickS.nil {σ : St} : PickS [] σ [] := ⟨rfl⟩
instance PickS.cons {i : Nat} {ix : List Nat} {σ σ' : St} {v : V} [g : GetS σ i v] [h : PickS ix σ σ'] : PickS (i :: ix) σ (some v :: σ') := ⟨by
  show ((σ[i]?).join :: pick ix σ) = _
  rw [g.get, h.eq]
  rfl⟩
section
variable {K : PySem.W.Frag} {σ σ' : St} {H : Hp} {D : Ends} {Q : VK} {E : XK} {t u : TS} {te ta tb tc : TE} {c c' : TT} {R : Bool → Hp → Prop} {r r' : R2} {i j : Int} {n : Nat} {v x : V} {a b : Bool} {z y : Str} {P A B : Prop}
instance i1 : RdS (tSeq t u D σ H) (t { D with nx := u D } σ H) := ⟨id⟩
instance i2 {g : TG} : RdS (tAsg te g D σ H) (te σ H fun x H1 => g x σ H1 D.nx) := ⟨id⟩
instance i3 : RdS (tRet te D σ H) (te σ H D.rt) := ⟨id⟩
instance i4 : RdS (tRetN D σ H) (D.rt .non H) := ⟨id⟩
instance i5 : RdS (tDrop te D σ H) (te σ H fun _ H1 => D.nx σ H1) := ⟨id⟩
instance i6 : RdS (tNext D σ H) (D.nx σ H) := ⟨id⟩
instance i7 : RdS (tIfS c t u D σ H) (c σ H fun b H1 => if b = true then t D σ H1 else u D σ H1) := ⟨id⟩
instance i8 [g : GetS σ n v] : RdS (tVar n σ H Q) (Q v H) := ⟨fun h => ⟨v, g.get, h⟩⟩
instance i9 : RdS (tC v σ H Q) (Q v H) := ⟨id⟩
instance i10 : RdS (tOp r ta tb σ H Q) (ta σ H fun x H1 => tb σ H1 fun y H2 => r x y H2 Q) := ⟨id⟩
instance i11 {r : V → Hp → VK → Prop} : RdS (tUn r ta σ H Q) (ta σ H fun x H1 => r x H1 Q) := ⟨id⟩
instance i12 {g : Int → Int → V} : RdS (rI0 g (.int i) (.int j) H Q) (Q (g i j) H) := ⟨fun h => ⟨i, j, rfl, rfl, h⟩⟩
instance i13 {g : Int → V} : RdS (rU g (.int i) H Q) (Q (g i) H) := ⟨fun h => ⟨i, rfl, h⟩⟩
instance i14 : RdS (rAddP K (.int i) (.int j) H Q) (Q (.int (i + j)) H) := ⟨rd_addI⟩
instance i15 : RdS (rLtP (.int i) (.int j) H Q) (Q (.bl (decide (i < j))) H) := ⟨rd_ltI⟩
instance i16 : RdS (rLtP (.str z) (.str y) H Q) (Q (.bl (decide (z.cps.toList < y.cps.toList))) H) := ⟨rd_ltS⟩
instance i17 : RdS (rLeP (.int i) (.int j) H Q) (Q (.bl (decide (i ≤ j))) H) := ⟨rd_leI⟩
instance i18 : RdS (rLeP (.str z) (.str y) H Q) (Q (.bl (!decide (y.cps.toList < z.cps.toList))) H) := ⟨rd_leS⟩
instance i19 : RdS (rEqD (.int i) (.int j) H Q) (Q (.bl (decide (i = j))) H) := ⟨rd_eqI⟩
instance i20 : RdS (rEqD (.str z) (.str y) H Q) (Q (.bl (decide (z = y))) H) := ⟨rd_eqS⟩
instance i21 : RdS (rEqD (.bl a) (.bl b) H Q) (Q (.bl (a == b)) H) := ⟨rd_eqB⟩
instance i22 : RdS (rNeD (.int i) (.int j) H Q) (Q (.bl (!decide (i = j))) H) := ⟨rd_neI⟩
instance i23 : RdS (rNeD (.str z) (.str y) H Q) (Q (.bl (!decide (z = y))) H) := ⟨rd_neS⟩
instance i24 : RdS (rNeD (.bl a) (.bl b) H Q) (Q (.bl (!(a == b))) H) := ⟨rd_neB⟩
instance i25 : RdS (tTest te σ H R) (te σ H fun x H' => ∃ k, x = .bl k ∧ R k H') := ⟨id⟩
instance i26 : RdS (tB te σ H R) (te σ H fun x H' => ∃ k, x = .bl k ∧ R k H') := ⟨id⟩
instance i27 {F : Bool → Prop} : RdS (∃ c, V.bl a = V.bl c ∧ F c) (F a) := ⟨fun h => ⟨a, rfl, h⟩⟩
instance i28 {F : Int → Prop} : RdS (∃ c, V.int i = V.int c ∧ F c) (F i) := ⟨fun h => ⟨i, rfl, h⟩⟩
instance i29 {F : Str → Prop} : RdS (∃ c, V.str z = V.str c ∧ F c) (F z) := ⟨fun h => ⟨z, rfl, h⟩⟩
instance i30 : RdS (tAnd c c' σ H R) (c σ H fun b H1 => if b = true then c' σ H1 R else R false H1) := ⟨id⟩
instance i31 : RdS (tOr c c' σ H R) (c σ H fun b H1 => if b = true then R true H1 else c' σ H1 R) := ⟨id⟩
instance i32 : RdS (tNot c σ H R) (c σ H fun b H1 => R (!b) H1) := ⟨id⟩
instance i33 : RdS (tAndV ta tb σ H Q) (ta σ H fun x H1 => ∃ c, x = .bl c ∧ if c = true then tb σ H1 Q else Q (.bl false) H1) := ⟨id⟩
instance i34 : RdS (tOrV ta tb σ H Q) (ta σ H fun x H1 => ∃ c, x = .bl c ∧ if c = true then Q (.bl true) H1 else tb σ H1 Q) := ⟨id⟩
instance i35 : RdS (tNotV ta σ H Q) (ta σ H fun x H1 => ∃ c, x = .bl c ∧ Q (.bl (!c)) H1) := ⟨id⟩
instance i36 : RdS (tIf c ta tb σ H Q) (c σ H fun b H1 => if b = true then ta σ H1 Q else tb σ H1 Q) := ⟨id⟩
instance i37 : RdS (tChain r r' ta tb tc σ H Q) (ta σ H fun x H1 => tb σ H1 fun y H2 => r x y H2 fun z H3 => ∃ k, z = .bl k ∧ (if k = true then tc σ H3 fun w' H4 => r' y w' H4 Q else Q (.bl false) H3)) := ⟨id⟩
instance i38 {sp : Sp} {t : TA} : RdS (tCall sp [] E t σ H Q) (t σ H fun vs H1 => sp vs H1 Q E) := ⟨rd_call⟩
instance i39 {r : List V → Hp → VK → Prop} {t : TA} : RdS (tCB r t σ H Q) (t σ H fun vs H1 => r vs H1 Q) := ⟨id⟩
instance i40 {F : List V → Hp → Prop} : RdS (tNil σ H F) (F [] H) := ⟨id⟩
instance i41 {tr : TA} {F : List V → Hp → Prop} : RdS (tCons ta tr σ H F) (ta σ H fun x H1 => tr σ H1 fun xs H2 => F (x :: xs) H2) := ⟨id⟩
instance i42 {t : TA} : RdS (tTupM t σ H Q) (t σ H fun xs H1 => mkT xs H1 Q) := ⟨id⟩
instance i43 {t : TA} : RdS (tLstM t σ H Q) (t σ H fun xs H1 => mkL xs H1 Q) := ⟨id⟩
instance i44 : RdS (rMax [.int i, .int j] H Q) (Q (.int (max i j)) H) := ⟨rd_max⟩
instance i45 : RdS (rMin [.int i, .int j] H Q) (Q (.int (min i j)) H) := ⟨rd_min⟩
instance i46 : RdS (rIsP x .non H Q) (Q (.bl (decide (x = .non))) H) := ⟨rd_isN⟩
instance i47 : RdS (rIsP (.bl a) (.bl b) H Q) (Q (.bl (a == b)) H) := ⟨rd_isB⟩
instance i48 : RdS (rIsntP x .non H Q) (Q (.bl (!decide (x = .non))) H) := ⟨rd_isntN⟩
instance i49 : RdS (rIsntP (.bl a) (.bl b) H Q) (Q (.bl (a != b)) H) := ⟨rd_isntB⟩
instance i50 {r : V → Option Int → Option Int → Hp → VK → Prop} {tl th : TO} : RdS (tSl r te tl th σ H Q) (te σ H fun x H1 => tl σ H1 fun l H2 => th σ H2 fun u H3 => r x l u H3 Q) := ⟨id⟩
instance i51 {F : Option Int → Hp → Prop} : RdS (tNoPart σ H F) (F none H) := ⟨id⟩
instance i52 {F : Option Int → Hp → Prop} : RdS (tPart te σ H F) (te σ H fun x H1 => ∃ i, x = .int i ∧ F (some i) H1) := ⟨id⟩
instance i53 : RdS (if true = true then A else B) A := ⟨iteT⟩
instance i54 : RdS (if false = true then A else B) B := ⟨iteF⟩
instance i55 : RdS (if (!true) = true then A else B) B := ⟨iteNT⟩
instance i56 : RdS (if (!false) = true then A else B) A := ⟨iteNF⟩
instance i57 {ix : List Nat} {wi : TI} : RdS (tLC ix wi c te σ H Q) (wi σ H fun J H1 => LcW J ix σ c te Q H1) := ⟨id⟩
instance i58 {wi : TI} {g : TG} : RdS (tFor wi g t D σ H) (wi σ H fun J H1 => ForW J g t D σ H1) := ⟨id⟩
instance i59 {F : St → Hp → Prop} [s : SetS σ n (some v) σ'] : RdS (gName n v σ H F) (F σ' H) := ⟨fun h => by show F (σ.set n (some v)) H; rw [s.set]; exact h⟩
instance i60 {F : It → Hp → Prop} : RdS (iStr te σ H F) (te σ H fun x H1 => ∃ z, x = .str z ∧ F (Its z) H1) := ⟨id⟩
instance i61 {F : It → Hp → Prop} : RdS (iList K te σ H F) (te σ H fun x H1 => ∃ a, x = .ref a ∧ (∃ xs, SqL K H1 a xs) ∧ F (Itl K a) H1) := ⟨id⟩
instance i62 {F : It → Hp → Prop} : RdS (iTup K te σ H F) (te σ H fun x H1 => ∃ a, x = .ref a ∧ (∃ xs, SqT K H1 a xs) ∧ F (Itt K a) H1) := ⟨id⟩
instance i63 {t : TA} {F : It → Hp → Prop} : RdS (iRng1 t σ H F) (t σ H fun vs H1 => ∃ j : Int, vs = [.int j] ∧ -(2 ^ 62) ≤ j ∧ j < 2 ^ 62 ∧ F (Itr 0 j.toNat) H1) := ⟨id⟩
instance i64 {t : TA} {F : It → Hp → Prop} : RdS (iRng2 t σ H F) (t σ H fun vs H1 => ∃ i j : Int, vs = [.int i, .int j] ∧ (-(2 ^ 62) ≤ i ∧ i < 2 ^ 62 ∧ -(2 ^ 62) ≤ j ∧ j < 2 ^ 62) ∧ F (Itr i (j - i).toNat) H1) := ⟨id⟩
instance i65 {F : St → Hp → Prop} : RdS (gNil [] σ H F) (F σ H) := ⟨fun h => ⟨rfl, h⟩⟩
instance i66 {g : TG} {gs : TGs} {vs : List V} {F : St → Hp → Prop} : RdS (gCons g gs (v :: vs) σ H F) (g v σ H fun σ' H' => gs vs σ' H' F) := ⟨fun h => ⟨v, vs, rfl, h⟩⟩
instance i68 : RdS (tYes σ H R) (R true H) := ⟨id⟩
class KitS (n T : String) (b : outParam Bool) : Prop where
  eq : ∀ K : PySem.W.Frag, PySem.W.kitOne K (.type n) (.type T) = some b
instance : KitS "NoneType" "str" false := ⟨kit_non_str⟩
instance : KitS "NoneType" "int" false := ⟨kit_non_int⟩
instance : KitS "NoneType" "bool" false := ⟨kit_non_bool⟩
instance : KitS "NoneType" "tuple" false := ⟨kit_non_tuple⟩
instance : KitS "NoneType" "list" false := ⟨kit_non_list⟩
instance : KitS "NoneType" "dict" false := ⟨kit_non_dict⟩
instance : KitS "bool" "str" false := ⟨kit_bl_str⟩
instance : KitS "bool" "int" true := ⟨kit_bl_int⟩
instance : KitS "bool" "bool" true := ⟨kit_bl_bool⟩
instance : KitS "bool" "tuple" false := ⟨kit_bl_tuple⟩
instance : KitS "bool" "list" false := ⟨kit_bl_list⟩
instance : KitS "bool" "dict" false := ⟨kit_bl_dict⟩
instance : KitS "int" "str" false := ⟨kit_int_str⟩
instance : KitS "int" "int" true := ⟨kit_int_int⟩
instance : KitS "int" "bool" false := ⟨kit_int_bool⟩
instance : KitS "int" "tuple" false := ⟨kit_int_tuple⟩
instance : KitS "int" "list" false := ⟨kit_int_list⟩
instance : KitS "int" "dict" false := ⟨kit_int_dict⟩
instance : KitS "str" "str" true := ⟨kit_str_str⟩
instance : KitS "str" "int" false := ⟨kit_str_int⟩
instance : KitS "str" "bool" false := ⟨kit_str_bool⟩
instance : KitS "str" "tuple" false := ⟨kit_str_tuple⟩
instance : KitS "str" "list" false := ⟨kit_str_list⟩
instance : KitS "str" "dict" false := ⟨kit_str_dict⟩
instance : KitS "list" "str" false := ⟨kit_lst_str⟩
instance : KitS "list" "int" false := ⟨kit_lst_int⟩
instance : KitS "list" "bool" false := ⟨kit_lst_bool⟩
instance : KitS "list" "tuple" false := ⟨kit_lst_tuple⟩
instance : KitS "list" "list" true := ⟨kit_lst_list⟩
instance : KitS "list" "dict" false := ⟨kit_lst_dict⟩
instance : KitS "tuple" "str" false := ⟨kit_tup_str⟩
instance : KitS "tuple" "int" false := ⟨kit_tup_int⟩
instance : KitS "tuple" "bool" false := ⟨kit_tup_bool⟩
instance : KitS "tuple" "tuple" true := ⟨kit_tup_tuple⟩
instance : KitS "tuple" "list" false := ⟨kit_tup_list⟩
instance : KitS "tuple" "dict" false := ⟨kit_tup_dict⟩
instance : KitS "dict" "str" false := ⟨kit_dK_str⟩
instance : KitS "dict" "int" false := ⟨kit_dK_int⟩
instance : KitS "dict" "bool" false := ⟨kit_dK_bool⟩
instance : KitS "dict" "tuple" false := ⟨kit_dK_tuple⟩
instance : KitS "dict" "list" false := ⟨kit_dK_list⟩
instance : KitS "dict" "dict" true := ⟨kit_dK_dict⟩
instance i70 {T : String} [k : KitS "NoneType" T b] : RdS (rIs K [.non, .ty T] H Q) (Q (.bl b) H) := ⟨rd_is .non (k.eq K)⟩
instance i71 {T : String} [k : KitS "bool" T b] : RdS (rIs K [.bl a, .ty T] H Q) (Q (.bl b) H) := ⟨rd_is (.bl a) (k.eq K)⟩
instance i72 {T : String} [k : KitS "int" T b] : RdS (rIs K [.int i, .ty T] H Q) (Q (.bl b) H) := ⟨rd_is (.int i) (k.eq K)⟩
instance i73 {T : String} [k : KitS "str" T b] : RdS (rIs K [.str z, .ty T] H Q) (Q (.bl b) H) := ⟨rd_is (.str z) (k.eq K)⟩
theorem rd_isL {T : String} [k : KitS "list" T b] {p : Addr} {xs : List V} (e : H p = some (.lst xs)) (h : Q (.bl b) H) : rIs K [.ref p, .ty T] H Q := rd_is (.lst e) (k.eq K) h
theorem rd_isT {T : String} [k : KitS "tuple" T b] {p : Addr} {xs : List V} (e : H p = some (.tup xs)) (h : Q (.bl b) H) : rIs K [.ref p, .ty T] H Q := rd_is (.tup e) (k.eq K) h
theorem rd_isD {T : String} [k : KitS "dict" T b] {p : Addr} {xs : List (Key × V)} (e : H p = some (.dK xs)) (h : Q (.bl b) H) : rIs K [.ref p, .ty T] H Q := rd_is (.dK e) (k.eq K) h
end
end L2

set_option Elab.async false
set_option linter.all false
set_option maxRecDepth 100000
set_option maxHeartbeats 4000000
namespace L2
open PySem PySem.Spec PyProof.Rows PySem.SeqAt
open AutoSeq1 (wpAny_loadPart')
/-! ### a tuple times 0 or 1 -/
section
variable {X : Cx} {K : PySem.W.Frag} {H : Hp} {Q : VK}
def rRepT : R2 := fun x y H Q => ∃ p xs k, x = .ref p ∧ y = .int k ∧ H p = some (.tup xs) ∧ xs ≠ [] ∧ ((k = 1 ∧ Q (.ref p) H) ∨ (k = 0 ∧ ∀ q, H q = none → Q (.ref q) (upd H q (.tup []))))
def rMulQ : R2 := fun x y H Q => rMulP x y H Q ∨ rRepT x y H Q
end
end L2

set_option Elab.async false
set_option linter.all false
set_option maxRecDepth 100000
set_option maxHeartbeats 4000000
namespace L2
open PySem PySem.Spec PyProof.Rows
/-! ### the rules in boxes: so that nobody looks into what is to be shown -/
structure BE (X : Cx) (e : Expr) (t : TE) : Prop where
  h : PE X e t
structure BT (X : Cx) (e : Expr) (t : TT) : Prop where
  h : PT X e t
structure BW (X : Cx) (e : Expr) (t : TT) : Prop where
  h : PW X e t
structure BA (X : Cx) (es : List Expr) (t : TA) : Prop where
  h : PA X es t
structure BS (X : Cx) (s : Stmt) (t : TS) : Prop where
  h : PS X s t
structure BSs (X : Cx) (s : List Stmt) (t : TS) : Prop where
  h : PSs X s t
structure BG (X : Cx) (e : Expr) (t : TG) : Prop where
  h : PG X e t
structure BGs (X : Cx) (e : List Expr) (t : TGs) : Prop where
  h : PGs X e t
structure BI (X : Cx) (tg e : Expr) (t : TI) : Prop where
  h : PI X tg e t
structure BO (X : Cx) (e : Option Expr) (t : TO) : Prop where
  h : PO X e t
structure BF (X : Cx) (es : List Expr) (t : TT) : Prop where
  h : PIfs X es t
section
variable {X : Cx} {a b c e o : Expr} {es : List Expr} {ta tb tc te : TE} {tA tB' : TT} {t : TA} {pos p p2 : Pos} {st : Stmt} {rest xs ys : List Stmt} {s u : TS}
theorem bv (i : Nat) {x : Str} (hN : X.N[i]? = some x := by rfl) (hv : Vis X.env.scope x := by first | exact Or.inl rfl | exact Or.inr (Or.inl rfl) | exact Or.inr (Or.inr rfl)) (hd : (x == ("__debug__" : Str)) = false := by decide)
    (hcd : (x == ("__classdict__" : Str)) = false := by decide) : BE X (.Name x pos) (tVar i) := ⟨pv i hN hv hd hcd⟩
theorem b_int {i j} : BE X (.Constant (.int i) j pos) (tC (.int i)) := ⟨pe_int⟩
theorem b_bl {i j} : BE X (.Constant (.bool i) j pos) (tC (.bl i)) := ⟨pe_bl⟩
theorem b_non {j} : BE X (.Constant .none j pos) (tC .non) := ⟨pe_non⟩
theorem b_str {x j} : BE X (.Constant (.str x) j pos) (tC (.str x)) := ⟨pe_str⟩
theorem b_gl {x : Str} {v : V} (h : ∃ u, X.mg x = some u ∧ RelV v u) (hg : Gl X x := by rfl) (hd : (x == ("__debug__" : Str)) = false := by decide) : BE X (.Name x pos) (tC v) := ⟨pe_gl h hg hd⟩
theorem b_ty {x : Str} {T : String} (hm : X.mg x = none) (hv : bootBuiltins x = some (.type T)) (hg : Gl X x := by rfl) (hn : x ≠ "__name__" := by decide) (hd : (x == ("__debug__" : Str)) = false := by decide) : BE X (.Name x pos) (tC (.ty T)) := ⟨pe_ty hm hv hg hn hd⟩
theorem b_op {op : Operator} {r : R2} (ho : OpR X (binaryOp op) r) (ha : BE X a ta) (hb : BE X b tb) : BE X (.BinOp a op b pos) (tOp r ta tb) := ⟨pe_op ho ha.h hb.h⟩
theorem b_not (ha : BE X a ta) : BE X (.UnaryOp .Not a pos) (tNotV ta) := ⟨pe_not ha.h⟩
theorem b_cmp {op : CmpOp} {r : R2} (ho : OpR X (compareOp op) r) (ha : BE X a ta) (hb : BE X b tb) (hm : behindInMarks op b = false) : BE X (.Compare a [op] [b] pos) (tOp r ta tb) := ⟨pe_cmpR ho ha.h hb.h hm⟩
theorem b_one {op} (h : BE X a ta) : BE X (.BoolOp op [a] pos) ta := ⟨pe_one h.h⟩
theorem b_and (ha : BE X a ta) (hb : BE X (.BoolOp .And (b :: es) pos) tb) : BE X (.BoolOp .And (a :: b :: es) pos) (tAndV ta tb) := ⟨pe_and ha.h hb.h⟩
theorem b_if (hc : BT X c tA) (ha : BE X a ta) (hb : BE X b tb) : BE X (.IfExp c a b pos) (tIf tA ta tb) := ⟨pe_ifExp hc.h ha.h hb.h⟩
theorem ba_nil : BA X [] tNil := ⟨pa_nil⟩
theorem ba_c (ha : BE X e te) (hr : BA X es t) (h : isStar e = false) : BA X (e :: es) (tCons te t) := ⟨pa_c ha.h hr.h h⟩
theorem b_lst (h : BA X es t) : BE X (.List es pos) (tLstM t) := ⟨pe_lstM h.h⟩
theorem b_tup {x1} (h : BA X es t) : BE X (.Tuple es x1 pos) (tTupM t) := ⟨pe_tupM h.h⟩
theorem bo_none : BO X none tNoPart := ⟨po_none⟩
theorem bo_some (h : BE X e te) : BO X (some e) (tPart te) := ⟨po_some h.h⟩
theorem b_slice {lo hi : Option Expr} {tl th : TO} {r : V → Option Int → Option Int → Hp → VK → Prop} (hr : SlR X r) (he : BE X e te) (hl : BO X lo tl) (hu : BO X hi th) : BE X (.Subscript e (.Slice lo hi none p2) pos) (tSl r te tl th) := ⟨pe_slice hr he.h hl.h hu.h⟩
theorem b_ix {r : R2} (hr : IxR X r) (ha : BE X a ta) (hb : BE X b tb) (hs : PlainIx b) : BE X (.Subscript a b pos) (tOp r ta tb) := ⟨pe_ix hr ha.h hb.h hs⟩
theorem b_f {x : Str} {sf : Stmt} {ps : List Str} {f : Addr} {fd : FuncData} {k : Nat} {sp : Sp} (N : Fn X.K X.mg x sf ps f fd) (G : FnOk X.prog X.w X.K X.mg X.base CX0 k f fd ps sp) (hr : Room k X.A) (ha : BA X (e :: es) t) (hg : Gl X x := by rfl) (hdb : (x == ("__debug__" : Str)) = false := by decide) (h1 : isStar e = false := by rfl) (h2 : noStar es = true := by rfl) :
    BE X (.Call (.Name x p) (e :: es) [] pos) (tCall sp [] E0 t) := ⟨pe_f N G hr ha.h hg hdb h1 h2⟩
theorem b_b {x : Str} {id : String} {r : List V → Hp → VK → Prop} (hc : CallR X (.builtin id) r) (hm : X.mg x = none) (hv : bootBuiltins x = some (.builtin id)) (ha : BA X (e :: es) t) (hg : Gl X x := by rfl) (hn : x ≠ "__name__" := by decide) (hdb : (x == ("__debug__" : Str)) = false := by decide) (h1 : isStar e = false := by rfl) (h2 : noStar es = true := by rfl) :
    BE X (.Call (.Name x p) (e :: es) [] pos) (tCB r t) := ⟨pe_b hc hm hv ha.h hg hn hdb h1 h2⟩
theorem b_t {x : Str} {T : String} {r : List V → Hp → VK → Prop} (hc : CallR X (.type T) r) (hm : X.mg x = none) (hv : bootBuiltins x = some (.type T)) (ha : BA X (e :: es) t) (hg : Gl X x := by rfl) (hn : x ≠ "__name__" := by decide) (hdb : (x == ("__debug__" : Str)) = false := by decide) (h1 : isStar e = false := by rfl) (h2 : noStar es = true := by rfl) :
    BE X (.Call (.Name x p) (e :: es) [] pos) (tCB r t) := ⟨pe_t hc hm hv ha.h hg hn hdb h1 h2⟩
theorem bi_r1 {tg : Expr} (hm : X.mg "range" = none) (ha : BA X [a] t) (hg : Gl X "range" := by rfl) (h1 : isStar a = false := by rfl) : BI X tg (.Call (.Name "range" p) [a] [] pos) (iRng1 t) := ⟨pi_r1 hm ha.h hg h1⟩
theorem bi_r2 {tg : Expr} (hm : X.mg "range" = none) (ha : BA X [a, b] t) (hg : Gl X "range" := by rfl) (h1 : isStar a = false := by rfl) (h2 : isStar b = false := by rfl) : BI X tg (.Call (.Name "range" p) [a, b] [] pos) (iRng2 t) := ⟨pi_r2 hm ha.h hg h1 h2⟩
theorem bi_list {tg : Expr} (h : BE X e te) : BI X tg e (iList X.K te) := ⟨pi_list h.h⟩
/-! tests -/
theorem bt_cmp {op : CmpOp} {r : R2} (ho : OpR X (compareOp op) r) (ha : BE X a ta) (hb : BE X b tb) (hm : behindInMarks op b = false) : BT X (.Compare a [op] [b] pos) (tTest (tOp r ta tb)) := ⟨pt_cmpR ho ha.h hb.h hm⟩
theorem bt_val (h : BE X e te) (he : ∀ whole, isTrue e X.env whole = (do let v ← whole; standAt e.pos; holding [v] (truthy v))) : BT X e (tB te) := ⟨pt_val h.h he⟩
theorem bt_not (h : BT X a tA) : BT X (.UnaryOp .Not a pos) (tNot tA) := ⟨pt_not h.h⟩
theorem bt_w (h : BW X e tA) : BT X e tA := ⟨h.h.pt⟩
theorem bw_and1 (h : BT X a tA) : BW X (.BoolOp .And [a] pos) tA := ⟨pw_and1 h.h⟩
theorem bw_or1 (h : BT X a tA) : BW X (.BoolOp .Or [a] pos) tA := ⟨pw_or1 h.h⟩
theorem bw_and (ha : BT X a tA) (hb : BW X (.BoolOp .And (b :: es) pos) tB') : BW X (.BoolOp .And (a :: b :: es) pos) (tAnd tA tB') := ⟨pw_and ha.h hb.h⟩
theorem bw_or (ha : BT X a tA) (hb : BW X (.BoolOp .Or (b :: es) pos) tB') : BW X (.BoolOp .Or (a :: b :: es) pos) (tOr tA tB') := ⟨pw_or ha.h hb.h⟩
/-! statements -/
theorem bss_nil : BSs X [] tNext := ⟨pss_nil⟩
theorem bss_cons (h1 : BS X st s) (h2 : BSs X rest u) : BSs X (st :: rest) (tSeq s u) := ⟨pss_cons h1.h h2.h⟩
theorem bss_one (h : BS X st s) : BSs X [st] s := ⟨pss_one h.h⟩
theorem bs_expr (h : BE X e te) (hs : swapsWith e none pos.line X.env = pure false := by rfl) : BS X (.Expr e pos) (tDrop te) := ⟨ps_expr h.h hs⟩
theorem bs_ret (h : BE X e te) : BS X (.Return (some e) pos) (tRet te) := ⟨ps_ret h.h⟩
theorem bs_if (hc : BT X c tA) (ha : BSs X xs s) (hb : BSs X ys u) : BS X (.If c xs ys pos) (tIfS tA s u) := ⟨ps_if hc.h ha.h hb.h⟩
theorem bs_set {i : Nat} {x : Str} {pos' : Pos} (hN : X.N.Nodup) (hi : X.N[i]? = some x) (hx : Loc X.env.scope x) (he : BE X e te) (hs : swapsWith e (some (.Name x pos')) pos.line X.env = pure false := by rfl) (hf : X.fn x = true ∨ X.env.scope.names.lookup x = some .local := by first | exact .inl rfl | exact .inr rfl | assumption) :
    BS X (.Assign [.Name x pos'] e pos) (tAsg te (gName i)) := ⟨ps_set hN hi hx he.h hs hf⟩
theorem bg_name {i : Nat} {x : Str} (hN : X.N.Nodup) (hi : X.N[i]? = some x) (hx : Loc X.env.scope x) (hf : X.fn x = true ∨ X.env.scope.names.lookup x = some .local := by first | exact .inl rfl | exact .inr rfl | assumption) : BG X (.Name x pos) (gName i) := ⟨pg_name hN hi hx hf⟩
theorem bs_for {tg iter : Expr} {wi : TI} {g : TG} (hp : PassesOwn (model X.prog X.w) X.A X.env X.xe) (hc : X.calm = true) (hi : BI X tg iter wi) (hg : BG X tg g) (hb : BSs X xs s) (hs : ∀ x, foldedSetIterable iter X.env x = pure x := by intro _; rfl) : BS X (.For tg iter xs [] pos) (tFor wi g s) := ⟨ps_for hp hc hi.h hg.h hb.h hs⟩
end
instance k0 {A B : Prop} : RdS (if (true == true) = true then A else B) A := ⟨fun h => by simpa using h⟩
instance k1 {A B : Prop} : RdS (if (true != true) = true then A else B) B := ⟨fun h => by simpa using h⟩
instance k2 {A B : Prop} : RdS (if (true == false) = true then A else B) B := ⟨fun h => by simpa using h⟩
instance k3 {A B : Prop} : RdS (if (true != false) = true then A else B) A := ⟨fun h => by simpa using h⟩
instance k4 {A B : Prop} : RdS (if (false == true) = true then A else B) B := ⟨fun h => by simpa using h⟩
instance k5 {A B : Prop} : RdS (if (false != true) = true then A else B) A := ⟨fun h => by simpa using h⟩
instance k6 {A B : Prop} : RdS (if (false == false) = true then A else B) A := ⟨fun h => by simpa using h⟩
instance k7 {A B : Prop} : RdS (if (false != false) = true then A else B) B := ⟨fun h => by simpa using h⟩
theorem rd_pick {K : PySem.W.Frag} {H : Hp} {Q : VK} {a : Addr} {xs : List V} {i : Int} (e : SqL K H a xs) (h0 : 0 ≤ i) (h1 : i < xs.length) (h : ∀ v ∈ xs, Q v H) : rIx K (.ref a) (.int i) H Q := by
  obtain ⟨j, rfl⟩ : ∃ j : Nat, i = j := ⟨i.toNat, by omega⟩
  have hj : j < xs.length := by omega
  exact rd_ixL e (atI_nat (List.getElem?_eq_getElem hj)) (h _ (List.getElem_mem hj))
section
variable {P : Program} {w : World} {K : PySem.W.Frag} {mg : Str → Option Value} {base : Heap}
theorem Fun.okB {x qual : Str} {st : Stmt} {f : Addr} {fd : FuncData} {N ps : List Str} {k : Nat} {sp : Sp} (F : Fun K x qual st f fd) (S : FnScope N ps (defScope st)) (len : ∀ vs H Q E, sp vs H Q E → vs.length = ps.length)
    (hbody : ∀ (cdv : Value) (A : Around) (outer : List Env) (s : Shared) (H : Hp) (vs : List V) (Q : VK) (E : XK), Room k (A.deeper (envOfC qual (defScope st) s.heap.objs.size f cdv)) → sp vs H Q E →
      ∃ t, BSs (cxOf CX0 P w K mg base N qual (defScope st) f cdv A outer s H E).nox (defBody st) t ∧ t { nx := fun _ H' => Q .non H', rt := Q } (start N vs) H) : FnOk P w K mg base CX0 (k + 1) f fd ps sp :=
  F.ok S len fun cdv A outer s H vs Q E hr hs => let ⟨t, h, q⟩ := hbody cdv A outer s H vs Q E hr hs; ⟨t, h.h, q⟩
end
end L2

set_option Elab.async false
set_option linter.all false
set_option maxRecDepth 100000
set_option maxHeartbeats 4000000
namespace L2
open PySem PySem.Spec PyProof.Rows
section
variable {X : Cx} {K : PySem.W.Frag} {σ : St} {H : Hp} {Q : VK} {o e : Expr} {es : List Expr} {to te : TE} {t : TA} {apos cpos pos p2 : Pos}
/-! ### xs.insert(k, y), k within -/
def insL {α : Type} (k : Nat) (y : α) (xs : List α) : List α := xs.take k ++ y :: xs.drop k
def rInsert : V → List V → Hp → VK → Prop := fun x vs H Q => ∃ l xs i y, x = .ref l ∧ vs = [.int i, y] ∧ H l = some (.lst xs) ∧ 0 ≤ i ∧ i ≤ xs.length ∧ xs.length < sizeLine ∧ Q .non (upd H l (.lst (insL i.toNat y xs)))
theorem bm_append (ho : BE X o to) (ha : BA X (e :: es) t) (hbase : attributeBase o "append" X.env (eval o X.env) = eval o X.env := by rfl)
    (hfew : ((backTo cpos (starEach (e :: es) X.env)).all (fun x => !x.1) && (backToKw cpos (keywordEach [] X.env)).all (fun x => x.1.isSome)
      && decide ((e :: es).length + ([] : List Keyword).length + (if ([] : List Keyword).isEmpty then 0 else 1) < 30)) = true := by rfl)
    (hline : (apos.endLine == cpos.line) = true := by rfl) (h1 : isStar e = false := by rfl) (h2 : noStar es = true := by rfl) :
    BE X (.Call (.Attribute o "append" apos) (e :: es) [] cpos) (tBM X.K "list" rAppend to t) :=
  ⟨pe_bm F.plainAttrs_list F.slot_list_append F.type_list_append mt_append ho.h ha.h hbase hfew hline (star_cons h1) (star_any h2)⟩
instance j1 {T : String} {r : V → List V → Hp → VK → Prop} : RdS (tBM K T r to t σ H Q) (to σ H fun x H1 => tyV K T x H1 ∧ t σ H1 fun xs H2 => r x xs H2 Q) := ⟨id⟩
theorem rd_bmL {p : Addr} {xs : List V} {P : Prop} (e : H p = some (.lst xs)) (h : P) : tyV K "list" (.ref p) H ∧ P := ⟨.inl ⟨rfl, _, SqL.of e⟩, h⟩
theorem rd_append {l : Addr} {xs : List V} {y : V} (e : H l = some (.lst xs)) (hz : xs.length < sizeLine) (h : Q .non (upd H l (.lst (xs ++ [y])))) : rAppend (.ref l) [y] H Q := ⟨l, xs, y, rfl, rfl, e, hz, h⟩
/-! ### xs[::-1] of a list -/
def tRev (K : PySem.W.Frag) (te : TE) : TE := fun σ H Q => te σ H fun x H1 => ∃ a xs, x = .ref a ∧ SqL K H1 a xs ∧ ∀ p H2, H1 p = none → Same H1 H2 → H2 p = some (.lst xs.reverse) → Q (.ref p) H2
instance j2 {te : TE} : RdS (tRev K te σ H Q) (te σ H fun x H1 => ∃ a xs, x = .ref a ∧ SqL K H1 a xs ∧ ∀ p H2, H1 p = none → Same H1 H2 → H2 p = some (.lst xs.reverse) → Q (.ref p) H2) := ⟨id⟩
instance j3 {A B : Prop} {b : Bool} : RdS (if (!(b == b)) = true then A else B) B := ⟨fun h => by simpa using h⟩
instance GetS.pick {ix : List Nat} {σ σ' : St} {i : Nat} {v : V} [p : PickS ix σ σ'] [g : GetS σ' i v] : GetS (pick ix σ) i v := ⟨by rw [p.eq]; exact g.get⟩
end
instance n0 {A B : Prop}  : RdS (if decide ((.non : V) = .non) = true then A else B) A := ⟨fun h => by simpa using h⟩
instance n1 {A B : Prop}  : RdS (if (!decide ((.non : V) = .non)) = true then A else B) B := ⟨fun h => by simpa using h⟩
instance n2 {A B : Prop} {p : Addr} : RdS (if decide (((.ref p) : V) = .non) = true then A else B) B := ⟨fun h => by simpa using h⟩
instance n3 {A B : Prop} {p : Addr} : RdS (if (!decide (((.ref p) : V) = .non)) = true then A else B) A := ⟨fun h => by simpa using h⟩
instance n4 {A B : Prop} {i : Int} : RdS (if decide (((.int i) : V) = .non) = true then A else B) B := ⟨fun h => by simpa using h⟩
instance n5 {A B : Prop} {i : Int} : RdS (if (!decide (((.int i) : V) = .non)) = true then A else B) A := ⟨fun h => by simpa using h⟩
instance n6 {A B : Prop} {z : Str} : RdS (if decide (((.str z) : V) = .non) = true then A else B) B := ⟨fun h => by simpa using h⟩
instance n7 {A B : Prop} {z : Str} : RdS (if (!decide (((.str z) : V) = .non)) = true then A else B) A := ⟨fun h => by simpa using h⟩
instance n8 {A B : Prop} {b : Bool} : RdS (if decide (((.bl b) : V) = .non) = true then A else B) B := ⟨fun h => by simpa using h⟩
instance n9 {A B : Prop} {b : Bool} : RdS (if (!decide (((.bl b) : V) = .non)) = true then A else B) A := ⟨fun h => by simpa using h⟩
section
variable {X : Cx} {K : PySem.W.Frag}
theorem ix_seqK (h : X.K = K) : IxR X (rIx K) := h ▸ ix_seq
theorem s_anyK (h : X.K = K) : SlR X (rSlP K) := h ▸ s_any
end
/-! ### entries, as plain data -/
abbrev Ent := Str × Int × L2.D
def entD (e : Ent) : L2.D := .tup [.str e.1, .int e.2.1, e.2.2]
def optD : Option Ent → L2.D
  | none => .non
  | some e => entD e
theorem Reps.at {H : Hp} {α : Type} {f : α → L2.D} : ∀ {es : List α} {vs : List V} {j : Nat} {v : V}, Reps H (es.map f) vs → vs[j]? = some v → ∃ e, es[j]? = some e ∧ Rep H (f e) v
  | [], vs, j, v, h, e => by
    rw [List.map_nil] at h
    rw [h.nilE] at e
    simp at e
  | x :: es, vs, j, v, h, e => by
    rw [List.map_cons] at h
    obtain ⟨u, r, rfl, h1, h2⟩ := h.consE
    cases j with
    | zero =>
      simp at e
      subst e
      exact ⟨x, rfl, h1⟩
    | succ j =>
      obtain ⟨y, e1, e2⟩ := Reps.at (es := es) (j := j) h2 (by simpa using e)
      exact ⟨y, by simpa using e1, e2⟩
/-! what a list's change leaves as it is: tuples and what they hold -/
mutual
def noL : L2.D → Bool
  | .lst _ => false
  | .dct => false
  | .tup ds => noLs ds
  | _ => true
def noLs : List L2.D → Bool
  | [] => true
  | d :: ds => noL d && noLs ds
end
def Tups (H H' : Hp) : Prop := ∀ b xs, H b = some (.tup xs) → H' b = some (.tup xs)
mutual
theorem Rep.stay {H H' : Hp} (s : Tups H H') : ∀ {d : L2.D} {v : V}, noL d = true → Rep H d v → Rep H' d v
  | .non, v, _, h => by simp only [Rep] at h ⊢; exact h
  | .bl b, v, _, h => by simp only [Rep] at h ⊢; exact h
  | .int b, v, _, h => by simp only [Rep] at h ⊢; exact h
  | .str b, v, _, h => by simp only [Rep] at h ⊢; exact h
  | .lst ds, v, n, h => by simp only [noL] at n; cases n
  | .dct, v, n, h => by simp only [noL] at n; cases n
  | .tup ds, v, n, h => by
    simp only [noL] at n
    simp only [Rep] at h ⊢
    obtain ⟨a, vs, e, h1, h2⟩ := h
    exact ⟨a, vs, e, s _ _ h1, Reps.stay s n h2⟩
theorem Reps.stay {H H' : Hp} (s : Tups H H') : ∀ {ds : List L2.D} {vs : List V}, noLs ds = true → Reps H ds vs → Reps H' ds vs
  | [], vs, _, h => by simp only [Reps] at h ⊢; exact h
  | d :: ds, vs, n, h => by
    simp only [noLs, Bool.and_eq_true] at n
    simp only [Reps] at h ⊢
    obtain ⟨v, r, e, h1, h2⟩ := h
    exact ⟨v, r, e, Rep.stay s n.1 h1, Reps.stay s n.2 h2⟩
end
theorem same_updL {H H1 : Hp} {l : Addr} {o : HO} (s : Same H H1) (h : H l = none) : Same H (upd H1 l o) := fun b u e => by
  rw [upd_ne (ne_of_none e h)]
  exact s b u e
theorem Reps.take {H : Hp} : ∀ {ds : List L2.D} {vs : List V} (n : Nat), Reps H ds vs → Reps H (ds.take n) (vs.take n)
  | ds, vs, 0, _ => by rw [List.take_zero, List.take_zero]; exact Reps.nil'
  | [], vs, n + 1, h => by rw [h.nilE]; exact Reps.nil'
  | d :: ds, vs, n + 1, h => by
    obtain ⟨v, r, rfl, h1, h2⟩ := h.consE
    exact Reps.cons' h1 (Reps.take n h2)
theorem Reps.drop {H : Hp} : ∀ {ds : List L2.D} {vs : List V} (n : Nat), Reps H ds vs → Reps H (ds.drop n) (vs.drop n)
  | ds, vs, 0, h => h
  | [], vs, n + 1, h => by rw [h.nilE]; exact Reps.nil'
  | d :: ds, vs, n + 1, h => by
    obtain ⟨v, r, rfl, h1, h2⟩ := h.consE
    exact Reps.drop n h2
theorem Reps.append {H : Hp} : ∀ {ds es : List L2.D} {vs us : List V}, Reps H ds vs → Reps H es us → Reps H (ds ++ es) (vs ++ us)
  | [], es, vs, us, h, h' => by rw [h.nilE]; exact h'
  | d :: ds, es, vs, us, h, h' => by
    obtain ⟨v, r, rfl, h1, h2⟩ := h.consE
    exact Reps.cons' h1 (Reps.append h2 h')
theorem Reps.ins {H : Hp} {ds : List L2.D} {vs : List V} {d : L2.D} {v : V} (k : Nat) (h : Reps H ds vs) (h1 : Rep H d v) : Reps H (insL k d ds) (insL k v vs) := (h.take k).append (Reps.cons' h1 (h.drop k))
theorem Reps.reverse {H : Hp} : ∀ {ds : List L2.D} {vs : List V}, Reps H ds vs → Reps H ds.reverse vs.reverse
  | [], vs, h => by rw [h.nilE]; exact Reps.nil'
  | d :: ds, vs, h => by
    obtain ⟨v, r, rfl, h1, h2⟩ := h.consE
    rw [List.reverse_cons, List.reverse_cons]
    exact (Reps.reverse h2).append (Reps.cons' h1 Reps.nil')
/-! the newest -/
def stepN (key : Str) (st : Int) (f : Option Ent) (e : Ent) : Option Ent := if e.1 = key ∧ e.2.1 ≤ st then (match f with | none => some e | some g => if g.2.1 < e.2.1 then some e else some g) else f
def newestM (es : List Ent) (key : Str) (st : Int) : Option Ent := es.foldl (stepN key st) none
def aheadB (e f : Ent) : Bool := if e.1 = f.1 then decide (f.2.1 < e.2.1) else decide (e.1.cps.toList < f.1.cps.toList)
/-- what the newest is: a candidate, and none has a greater stamp -/
def IsN (es : List Ent) (key : Str) (st : Int) : Option Ent → Prop
  | none => ∀ e ∈ es, ¬ (e.1 = key ∧ e.2.1 ≤ st)
  | some g => g ∈ es ∧ (g.1 = key ∧ g.2.1 ≤ st) ∧ ∀ e ∈ es, e.1 = key ∧ e.2.1 ≤ st → e.2.1 ≤ g.2.1
end L2

set_option Elab.async false
set_option linter.all false
set_option maxRecDepth 100000
set_option maxHeartbeats 4000000
namespace L2
open PySem PySem.Spec PyProof.Rows
section
variable {X : Cx} {K : PySem.W.Frag} {σ : St} {H : Hp} {Q : VK} {o e : Expr} {es : List Expr} {to te : TE} {t : TA} {apos cpos pos p2 : Pos}
/-! ### shifts of great numbers -/
def CShl (i j : Int) : Prop := 0 ≤ j ∧ (Builtin.Int.intBits i : Int) + j ≤ 2 ^ 27
/-! ### texts -/
def rIndex : V → List V → Hp → VK → Prop := fun x vs H Q => ∃ z y i r, x = .str z ∧ vs = [.str y] ∧ Builtin.Str.occurrences z y 0 z.length 1 = i :: r ∧ Q (.int (i : Nat)) H
def rJoin (K : PySem.W.Frag) : V → List V → Hp → VK → Prop := fun x vs H Q => ∃ z p ys, x = .str z ∧ vs = [.ref p] ∧ SqL K H p (ys.map V.str) ∧ (ys.map (·.length)).sum + ys.length * z.length ≤ 16777216 ∧ Q (.str (Txt.join z ys)) H
theorem strsAre_of : ∀ {ys : List Str} {us : List Value}, Vals (ys.map V.str) us → StrsAre us ys
  | [], _, r => by rw [List.map_nil] at r; cases r; exact .nil
  | y :: ys, _, r => by
    rw [List.map_cons] at r
    cases r with
    | cons r1 r2 =>
      obtain ⟨t, rfl⟩ := r1
      exact .cons y t (strsAre_of r2)
def rPart : V → List V → Hp → VK → Prop := fun x vs H Q => ∃ z y, x = .str z ∧ vs = [.str y] ∧ (y.length == 0) = false ∧ z.length ≤ sizeLine ∧ ∀ p H1, Same H H1 → H1 p = some (.tup [.str (Txt.partition z y).1, .str (Txt.partition z y).2.1, .str (Txt.partition z y).2.2]) → Q (.ref p) H1
/-! int(text) -/
def rIntT : List V → Hp → VK → Prop := fun xs H Q => ∃ z n, xs = [.str z] ∧ PySem.intText? z = some n ∧ z.length ≤ 640 ∧ Q (.int n) H
/-! methods in boxes -/
/-! ### f-strings -/
abbrev TJ := St → Hp → Str → (Str → Hp → Prop) → Prop
structure BJ (X : Cx) (es : List Expr) (t : TJ) : Prop where
  h : ∀ (pins : List (Addr × Obj)) (s : Shared) (σ : St) (H : Hp) (out : Str) (Q : Str → Hp → Prop), Inv X pins σ H s → t σ H out Q → wpAny (model X.prog X.w) X.A (joinParts out (evalEach es X.env)) (fun u s' => ∃ z H', Inv X pins σ H' s' ∧ RelV (.str z) u ∧ Q z H') X.xe s
def jNil : TJ := fun _ H out Q => out.length ≤ sizeLine ∧ Q out H
def jCons (te : TE) (t : TJ) : TJ := fun σ H out Q => te σ H fun x H1 => ∃ y, x = .str y ∧ (out ++ y).length ≤ sizeLine ∧ t σ H1 (out ++ y) Q
def tFs (t : TJ) : TE := fun σ H Q => t σ H Str.empty fun z H1 => Q (.str z) H1
def tFmt (te : TE) : TE := fun σ H Q => te σ H fun x H1 => (∃ i, x = .int i ∧ i.natAbs.log2 < 1920 ∧ Q (.str (toString i)) H1) ∨ ∃ z, x = .str z ∧ z.length ≤ sizeLine ∧ Q (.str z) H1
/-! ### for x in reversed(xs) -/
def Itv (K : PySem.W.Frag) (a : Addr) (n : Nat) : It :=
  ⟨fun i H => i < n ∧ ∃ xs, SqL K H a xs ∧ xs.length = n, fun i H x H' => H' = H ∧ ∀ xs, SqL K H a xs → xs[n - 1 - i]? = some x, fun i _ => i = n⟩
def iRev (K : PySem.W.Frag) (te : TE) : TI := fun σ H R => te σ H fun x H1 => ∃ a xs, [x] = [V.ref a] ∧ SqL K H1 a xs ∧ R (Itv K a xs.length) H1
instance v1 {te : TE} {F : It → Hp → Prop} : RdS (iRev K te σ H F) (te σ H fun x H1 => ∃ a xs, [x] = [V.ref a] ∧ SqL K H1 a xs ∧ F (Itv K a xs.length) H1) := ⟨id⟩
end
end L2

set_option Elab.async false
set_option linter.all false
set_option maxRecDepth 100000
set_option maxHeartbeats 4000000
namespace L2
open PySem PySem.Spec PyProof.Rows
/-! ### t < u of tuples of texts and ints -/
abbrev At := Sum Str Int
def atV : At → V
  | .inl x => .str x
  | .inr n => .int n
inductive AtsAre : List Value → List At → Prop
  | nil : AtsAre [] []
  | str {us r} (x : Str) (t : Tok) : AtsAre us r → AtsAre (.str x t :: us) (.inl x :: r)
  | int {us r} (n : Int) (t : Tok) : AtsAre us r → AtsAre (.int n t :: us) (.inr n :: r)
theorem AtsAre.length {us : List Value} {as : List At} (h : AtsAre us as) : us.length = as.length := by
  induction h with
  | nil => rfl
  | str _ _ _ ih => simp only [List.length_cons, ih]
  | int _ _ _ ih => simp only [List.length_cons, ih]
/-- of like kinds, place by place -/
def likeA : List At → List At → Prop
  | .inl _ :: xs, .inl _ :: ys => likeA xs ys
  | .inr _ :: xs, .inr _ :: ys => likeA xs ys
  | .inl _ :: _, .inr _ :: _ => False
  | .inr _ :: _, .inl _ :: _ => False
  | _, _ => True
def lexA : List At → List At → Bool
  | [], [] => false
  | [], _ :: _ => true
  | _ :: _, [] => false
  | .inl x :: xs, .inl y :: ys => if x = y then lexA xs ys else decide (x.cps.toList < y.cps.toList)
  | .inr x :: xs, .inr y :: ys => if x = y then lexA xs ys else decide (x < y)
  | _ :: _, _ :: _ => false
section
open PySem.SeqAt
open PySem.AutoSeq1 (wpAny_loadPart')
open PySem.MeetsSeq PySem.MeetsSeq2 PySem.MeetsSeq3
end
section
variable {X : Cx} {K : PySem.W.Frag} {H : Hp} {Q : VK}
def rLtA (K : PySem.W.Frag) : R2 := fun x y H Q => ∃ a b as bs, x = .ref a ∧ y = .ref b ∧ SqT K H a (as.map atV) ∧ SqT K H b (bs.map atV) ∧ likeA as bs ∧ Q (.bl (lexA as bs)) H
end
end L2

set_option Elab.async false
set_option linter.all false
set_option maxRecDepth 100000
set_option maxHeartbeats 4000000
namespace L2
open PySem PySem.Spec PyProof.Rows
/-! ### fours of bits, the lowest first -/
def val : List Nat → Int
  | [] => 0
  | d :: ds => d + 16 * val ds
def okF (ds : List Nat) : Prop := ∀ d ∈ ds, d < 16
theorem okF.take {ds : List Nat} (h : okF ds) (n : Nat) : okF (ds.take n) := fun d hd => h d (List.mem_of_mem_take hd)
theorem okF.drop {ds : List Nat} (h : okF ds) (n : Nat) : okF (ds.drop n) := fun d hd => h d (List.mem_of_mem_drop hd)
def sg (ds : List Nat) : Str := ⟨(ds.map (97 + ·)).toArray⟩
theorem str_ext {x y : Str} (h : x.cps.toList = y.cps.toList) : x = y := by
  cases x; cases y
  congr 1
  exact Array.ext' h
def SIGN : Str := "abcdefghijklmnop"
/-! the sizes' figures -/
def FIG : Str := "0123456789"
end L2

set_option Elab.async false
set_option linter.all false
set_option maxRecDepth 100000
set_option maxHeartbeats 4000000
namespace L2
open PySem PySem.Spec PyProof.Rows
end L2

set_option Elab.async false
set_option linter.all false
set_option maxRecDepth 100000
set_option maxHeartbeats 4000000
namespace L2
open PySem PySem.Spec PyProof.Rows
/-! ### figures, and the texts of sieves as they are read -/
def isFig (c : Nat) : Bool := decide (48 ≤ c ∧ c ≤ 57)
def isSg (c : Nat) : Bool := decide (97 ≤ c ∧ c ≤ 112)
def figB (z : Str) : Bool := decide (z ≠ Str.ofString "") && z.cps.toList.all isFig
def numM (z : Str) : Nat := NumText.digitsVal z.cps.toList
/-- what read_figures tells -/
def rfM (least most : Int) (n : Nat) (z : Str) : Option Int :=
  if z.length ≤ n ∧ figB z = true ∧ ¬ (atI z.cps.toList 0 = some 48 ∧ z ≠ Str.ofString "0") ∧ least ≤ numM z ∧ (numM z : Int) ≤ most then some (numM z : Int) else none
def szM (z : Str) : Option Int := if z.length ≤ 6 ∧ figB z = true ∧ atI z.cps.toList 0 ≠ some 48 ∧ numM z % 8 = 0 then some (numM z : Int) else none
/-! the text parted -/
def pH (z : Str) : Str := (Txt.partition z (Str.ofString ":")).1
def pC (z : Str) : Str := (Txt.partition z (Str.ofString ":")).2.1
def pB (z : Str) : Str := (Txt.partition z (Str.ofString ":")).2.2
def dsOf (z : Str) : List Nat := z.cps.toList.map (· - 97)
def dueM (z : Str) : Option (Int × Int) :=
  match szM (pH z) with
  | none => none
  | some n => if ((pB z).length : Int) = n / 4 ∧ (pB z).cps.toList.all isSg = true then some (n, val (dsOf (pB z))) else none
end L2

set_option Elab.async false
set_option linter.all false
set_option maxRecDepth 100000
set_option maxHeartbeats 4000000
namespace L2
open PySem PySem.Spec PyProof.Rows
open PySem.SeqAt
open PySem.AutoSeq1 (wpAny_loadPart')
open PySem.MeetsSeq PySem.MeetsSeq2 PySem.MeetsSeq3
end L2

set_option Elab.async false
set_option linter.all false
set_option maxRecDepth 100000
set_option maxHeartbeats 4000000
namespace L2
open PySem PySem.Spec PyProof.Rows
section
variable {prog : Program} {w : World} {A : Around} {E : Value → Shared → Prop} {s : Shared} {it : Addr} {z : Str} {t : Tok}
/-- a walk from the end of a text -/
def IsRevS (h : Heap) (it : Addr) (z : Str) (t : Tok) (i : Int) : Prop := h.get? it = some { cls := .type "reversed", data := .fields #[.str z t, rawInt i] }
end
end L2

set_option Elab.async false
set_option linter.all false
set_option maxRecDepth 100000
set_option maxHeartbeats 4000000
namespace L2
open PySem PySem.Spec PyProof.Rows
section
variable {X : Cx} {K : PySem.W.Frag} {σ : St} {H : Hp} {Q : VK} {e : Expr} {te : TE} {pos : Pos}
def Itw (z : Str) : It := ⟨fun i _ => i < z.length, fun i H x H' => H' = H ∧ ∃ c, z.cps.toList[z.length - 1 - i]? = some c ∧ x = .str ⟨#[c]⟩, fun i _ => i = z.length⟩
def iRevS (te : TE) : TI := fun σ H R => te σ H fun x H1 => ∃ z, [x] = [V.str z] ∧ z.length ≤ sizeLine ∧ R (Itw z) H1
instance w1 {te : TE} {F : It → Hp → Prop} : RdS (iRevS te σ H F) (te σ H fun x H1 => ∃ z, [x] = [V.str z] ∧ z.length ≤ sizeLine ∧ F (Itw z) H1) := ⟨id⟩
end
end L2

set_option Elab.async false
set_option linter.all false
set_option maxRecDepth 100000
set_option maxHeartbeats 4000000
namespace L2
open PySem PySem.Spec PyProof.Rows
/-! ### text.replace(a, b), a and b written: their tokens are to be told from 0, so a written text must stand ahead of it -/
structure BP (X : Cx) (e : Expr) (t : TE) : Prop where
  h : ∀ (pins : List (Addr × Obj)) (s : Shared) (σ : St) (H : Hp) (Q : VK), Inv X pins σ H s → 0 < s.toks → t σ H Q → wpAny (model X.prog X.w) X.A (eval e X.env) (fun u s' => 0 < s'.toks ∧ EP X pins σ Q u s') X.xe s
section
variable {X : Cx} {K : PySem.W.Frag} {σ : St} {H : Hp} {Q : VK} {o e : Expr} {es : List Expr} {to te te2 te3 : TE} {t : TA} {apos cpos pos p2 : Pos}
def rRepl : V → List V → Hp → VK → Prop := fun x vs H Q => ∃ a y z, x = .str a ∧ vs = [.str y, .str z] ∧ (y == z) = false ∧ a.length + (a.length + 1) * z.length ≤ 16777216 ∧ (Txt.replace a y z).length ≤ sizeLine ∧ Q (.str (Txt.replace a y z)) H
/-! ### a comprehension over a text, with a test -/
end
end L2

set_option Elab.async false
set_option linter.all false
set_option maxRecDepth 100000
set_option maxHeartbeats 4000000
namespace L2
open PySem PySem.Spec PyProof.Rows
section
variable {K : PySem.W.Frag} {σ : St} {H : Hp} {Q : VK} {ix : List Nat} {te : TE}
/-! ### comprehensions whose items are told by an invariant: W by the turn, the items so far, the heap -/
/-! ### texts put together -/
end
end L2
namespace L2
open PySem PySem.Spec PyProof.Rows
section
variable {X : Cx} {K : PySem.W.Frag} {σ : St} {H : Hp} {Q : VK}
def rTuple (K : PySem.W.Frag) : List V → Hp → VK → Prop := fun xs H Q => ∃ p ys, xs = [.ref p] ∧ ((SqL K H p ys ∧ ∀ l, H l = none → Q (.ref l) (upd H l (.tup ys))) ∨ (SqT K H p ys ∧ Q (.ref p) H))
/-! cuts of lists -/
theorem sIx_nat (len : Nat) (d : Nat) {n : Nat} (h : n ≤ len) : HT.sIx len d (some (n : Int)) = n := by
  unfold HT.sIx
  simp only
  rw [if_neg (by omega)]
  omega
theorem cutV_from (xs : List V) {n : Nat} (h : n ≤ xs.length) : cutV xs (some (n : Int)) none = xs.drop n := by
  unfold cutV
  rw [sIx_nat _ _ h, show HT.sIx xs.length xs.length none = xs.length from rfl]
  exact List.take_of_length_le (by rw [List.length_drop]; omega)
theorem Reps.rep {H : Hp} {ds : List L2.D} {vs : List V} (r : Reps H ds vs) : ∀ k : Nat, Reps H (List.replicate k ds).flatten (List.replicate k vs).flatten
  | 0 => Reps.nil'
  | k + 1 => by
    rw [List.replicate_succ, List.flatten_cons, List.replicate_succ, List.flatten_cons]
    exact r.append (Reps.rep r k)
end
end L2

set_option Elab.async false
set_option linter.all false
set_option maxRecDepth 100000
set_option maxHeartbeats 4000000
namespace L2
open PySem PySem.Spec PyProof.Rows
section
variable {X : Cx} {scope : Scope} {x : Str} {fv : List Str} {ix : List Nat}
variable {y : Str} {iy : Nat} {py px pos spos : Pos} {elt iter : Expr} {ifs : List Expr} {osc : Scope} {wi : TI} {tt : TT} {te : TE}
end
end L2

set_option Elab.async false
set_option linter.all false
set_option maxRecDepth 100000
set_option maxHeartbeats 4000000
namespace L2
open PySem PySem.Spec PyProof.Rows
section
variable {X : Cx} {K : PySem.W.Frag} {σ : St} {H : Hp} {Q : VK} {e : Expr} {te : TE} {pos : Pos}
/-! ### for k, x in enumerate(xs) -/
def Ite (K : PySem.W.Frag) (a : Addr) : It :=
  ⟨fun i H => ∃ xs x, SqL K H a xs ∧ xs[i]? = some x, fun i H x H' => ∃ p v, x = .ref p ∧ H p = none ∧ (∀ xs, SqL K H a xs → xs[i]? = some v) ∧ H' = upd H p (.tup [.int (i : Int), v]), fun i H => ∃ xs, SqL K H a xs ∧ xs.length ≤ i⟩
def iEnum (K : PySem.W.Frag) (te : TE) : TI := fun σ H R => te σ H fun x H1 => ∃ a, [x] = [V.ref a] ∧ (∃ xs, SqL K H1 a xs) ∧ R (Ite K a) H1
instance y1 {te : TE} {F : It → Hp → Prop} : RdS (iEnum K te σ H F) (te σ H fun x H1 => ∃ a, [x] = [V.ref a] ∧ (∃ xs, SqL K H1 a xs) ∧ F (Ite K a) H1) := ⟨id⟩
end
end L2
namespace L2
open PySem PySem.Spec PyProof.Rows
section
variable {X : Cx} {K : PySem.W.Frag} {σ : St} {H : Hp} {Q : VK} {o e i : Expr} {es : List Expr} {to te ti : TE} {t : TA} {apos cpos pos p2 : Pos}
/-! ### int(truth), text.join(tuple), xs.clear() -/
def rIntB : List V → Hp → VK → Prop := fun xs H Q => ∃ b : Bool, xs = [.bl b] ∧ Q (.int (if b then 1 else 0)) H
theorem c_intB : CallR X (.type "int") rIntB := by
  intro pins s σ H xs us Q I r h
  obtain ⟨b, rfl, q⟩ := h
  obtain ⟨u, rfl, ru⟩ := vals1 r
  cases (show u = Value.bool b from ru)
  exact call_int_bool ⟨.int (if b then 1 else 0), H, I.tok _, ⟨_, rfl⟩, q⟩
theorem rd_intB {b : Bool} (h : Q (.int (if b then 1 else 0)) H) : rIntB [.bl b] H Q := ⟨b, rfl, h⟩
def rJoinT (K : PySem.W.Frag) : V → List V → Hp → VK → Prop := fun x vs H Q => ∃ z p ys, x = .str z ∧ vs = [.ref p] ∧ SqT K H p (ys.map V.str) ∧ (ys.map (·.length)).sum + ys.length * z.length ≤ 16777216 ∧ Q (.str (Txt.join z ys)) H
end
end L2
namespace L2
open PySem PySem.Spec PyProof.Rows
section
variable {X : Cx} {K : PySem.W.Frag} {σ : St} {H : Hp} {Q : VK} {o i : Expr} {to ti : TE} {pos : Pos}
instance y3 {T : String} {r : V → List V → Hp → VK → Prop} {to : TE} : RdS (tBM0 K T r to σ H Q) (to σ H fun x H1 => tyV K T x H1 ∧ r x [] H1 Q) := ⟨id⟩
instance y2 {t : TSet} {v : V} {F : St → Hp → Prop} : RdS (gSub to ti t v σ H F) (to σ H fun o H1 => ti σ H1 fun i H2 => t o i v H2 fun H3 => F σ H3) := ⟨id⟩
end
end L2

set_option Elab.async false
set_option linter.all false
set_option maxRecDepth 100000
set_option maxHeartbeats 4000000
namespace L2
open PySem PySem.Spec PyProof.Rows
section
variable {X : Cx} {K : PySem.W.Frag} {σ : St} {H : Hp} {Q : VK} {o e : Expr} {es : List Expr} {to te : TE} {t : TA} {apos cpos pos p2 : Pos}
/-! ### text.zfill(n), text.startswith(text) -/
def rZfill : V → List V → Hp → VK → Prop := fun x vs H Q => ∃ z i, x = .str z ∧ vs = [.int i] ∧ PadOk i = true ∧ Q (.str (Txt.zfill z i)) H
def rStarts : V → List V → Hp → VK → Prop := fun x vs H Q => ∃ z y, x = .str z ∧ vs = [.str y] ∧ Q (.bl (Txt.startswith z y)) H
end
end L2
namespace L2
open PySem PySem.Spec PyProof.Rows
section
variable {σ : St} {H : Hp} {Q : VK} {te : TE} {t : TJ} {out : Str} {F : Str → Hp → Prop}
/-! ### f-strings, read step by step -/
instance z1 : RdS (tFs t σ H Q) (t σ H Str.empty fun z H1 => Q (.str z) H1) := ⟨id⟩
instance z2 : RdS (jCons te t σ H out F) (te σ H fun x H1 => ∃ y, x = .str y ∧ (out ++ y).length ≤ sizeLine ∧ t σ H1 (out ++ y) F) := ⟨id⟩
instance z3 : RdS (tFmt te σ H Q) (te σ H fun x H1 => (∃ i, x = .int i ∧ i.natAbs.log2 < 1920 ∧ Q (.str (toString i)) H1) ∨ ∃ z, x = .str z ∧ z.length ≤ sizeLine ∧ Q (.str z) H1) := ⟨id⟩
end
end L2

set_option Elab.async false
set_option linter.all false
set_option maxRecDepth 100000
set_option maxHeartbeats 4000000
namespace L2
open PySem PySem.Spec PyProof.Rows
/-! ### numbers with noughts ahead -/
def padL (n : Nat) : Nat → List Nat
  | 0 => []
  | i + 1 => (48 + n / 10 ^ i % 10) :: padL n i
theorem padL_len (n k : Nat) : (padL n k).length = k := by
  induction k with
  | zero => rfl
  | succ k ih => simp only [padL, List.length_cons, ih]
theorem padL_dig (n k : Nat) : NumText.AllDigits (padL n k) := by
  induction k with
  | zero => intro c hc; cases hc
  | succ k ih =>
    intro c hc
    rcases List.mem_cons.mp hc with rfl | h
    · omega
    · exact ih c h
theorem foldl_pad (n : Nat) : ∀ (k a : Nat), (padL n k).foldl (fun acc c => acc * 10 + (c - 48)) a = a * 10 ^ k + n % 10 ^ k
  | 0, a => by simp [padL, Nat.mod_one]
  | k + 1, a => by
    simp only [padL, List.foldl_cons]
    rw [foldl_pad n k, Nat.add_sub_cancel_left]
    have h1 := Nat.div_add_mod n (10 ^ k)
    have h2 := Nat.div_add_mod (n / 10 ^ k) 10
    have h3 : n % 10 ^ (k + 1) = n % 10 ^ k + 10 ^ k * (n / 10 ^ k % 10) := by
      rw [Nat.pow_succ, Nat.mod_mul]
    rw [h3, Nat.pow_succ, Nat.add_mul, Nat.mul_assoc, Nat.mul_comm 10 (10 ^ k), Nat.mul_comm (n / 10 ^ k % 10) (10 ^ k)]
    omega
theorem padL_val {n k : Nat} (h : n < 10 ^ k) : NumText.digitsVal (padL n k) = n := by
  unfold NumText.digitsVal
  rw [foldl_pad, Nat.mod_eq_of_lt h]
  omega
theorem drop48 : ∀ cs : List Nat, cs = List.replicate (cs.length - (cs.dropWhile (· == 48)).length) 48 ++ cs.dropWhile (· == 48)
  | [] => rfl
  | c :: cs => by
    by_cases h : c = 48
    · subst h
      have ih := drop48 cs
      have hl : (cs.dropWhile (· == 48)).length ≤ cs.length := (List.dropWhile_sublist _).length_le
      rw [List.dropWhile_cons_of_pos (by simp), List.length_cons, show cs.length + 1 - (cs.dropWhile (· == 48)).length = (cs.length - (cs.dropWhile (· == 48)).length) + 1 by omega, List.replicate_succ, List.cons_append, ← ih]
    · rw [List.dropWhile_cons_of_neg (by simpa using h)]
      simp
def padS (n k : Nat) : Str := ⟨(padL n k).toArray⟩
/-- the figures of a number -/
theorem num_list (n : Nat) : (Str.ofString (toString (n : Int))).cps.toList = (Nat.toDigits 10 n).map Char.toNat := PySem.W.KIN.signs_num n
theorem map_back : ∀ {cs : List Nat}, NumText.AllDigits cs → (cs.map Char.ofNat).map Char.toNat = cs
  | [], _ => rfl
  | c :: cs, h => by
    have hc := h c List.mem_cons_self
    have : (Char.ofNat c).toNat = c := by
      obtain ⟨d, rfl⟩ : ∃ d, c = 48 + d := ⟨c - 48, by omega⟩
      have hd : d < 10 := by omega
      match d, hd with
      | 0, _ => rfl
      | 1, _ => rfl
      | 2, _ => rfl
      | 3, _ => rfl
      | 4, _ => rfl
      | 5, _ => rfl
      | 6, _ => rfl
      | 7, _ => rfl
      | 8, _ => rfl
      | 9, _ => rfl
    rw [List.map_cons, List.map_cons, this, map_back fun x hx => h x (List.mem_cons_of_mem _ hx)]
theorem num_pad {n k : Nat} (h : n < 10 ^ k) (hk : 1 ≤ k) : padL n k = List.replicate (k - (Str.ofString (toString (n : Int))).length) 48 ++ (Str.ofString (toString (n : Int))).cps.toList := by
  have hd := padL_dig n k
  have ha := NumText.toDigits_all (padL n k) hd
  rw [padL_val h] at ha
  have e := drop48 (padL n k)
  rw [padL_len] at e
  rw [len_list, num_list, ha]
  cases hc : (padL n k).dropWhile (· == 48) with
  | nil =>
    rw [hc] at e
    simp only [List.length_nil, Nat.sub_zero, List.append_nil] at e
    rw [e]
    obtain ⟨m, rfl⟩ : ∃ m, k = m + 1 := ⟨k - 1, by omega⟩
    show List.replicate (m + 1) 48 = List.replicate (m + 1 - 1) 48 ++ [48]
    rw [Nat.add_sub_cancel, List.replicate_succ']
  | cons c r =>
    rw [hc] at e
    have hcr : NumText.AllDigits (c :: r) := fun x hx => hd x (by rw [e]; exact List.mem_append_right _ hx)
    simp only
    rw [map_back hcr]
    exact e
end L2

set_option Elab.async false
set_option linter.all false
set_option maxRecDepth 100000
set_option maxHeartbeats 4000000
namespace L2
open PySem PySem.Spec PyProof.Rows
/-! ### cuts of texts, numbers read back -/
theorem slice_cut {z : Str} {i j : Nat} (h1 : i ≤ j) (h2 : j ≤ z.length) : (Txt.slice z (some (i : Int)) (some (j : Int))).cps.toList = (z.cps.toList.drop i).take (j - i) := by
  have e := slice_closes (x := z) (i := (i : Int)) (j := (j : Int)) ⟨by omega, by omega, by rw [← len_list]; omega⟩
  rw [eq_of_beq e]
  show (z.cps.toList.drop (i : Int).toNat).take ((j : Int) - (i : Int)).toNat = _
  rw [show ((j : Int) - (i : Int)).toNat = j - i by omega, show (i : Int).toNat = i by omega]
end L2

set_option Elab.async false
set_option linter.all false
set_option maxRecDepth 100000
set_option maxHeartbeats 4000000
namespace L2
open PySem PySem.Spec PyProof.Rows
section
variable {X : Cx} {K : PySem.W.Frag} {σ : St} {H : Hp} {Q : VK} {o e : Expr} {es : List Expr} {to te : TE} {t : TA} {apos cpos pos p2 : Pos}
/-! ### text.split(text) -/
def rSplit : V → List V → Hp → VK → Prop := fun x vs H Q => ∃ z y, x = .str z ∧ vs = [.str y] ∧ (y.length == 0) = false ∧ z.length + 2 ≤ sizeLine ∧ ∀ p H1, H p = none → Same H H1 → H1 p = some (.lst ((Txt.split z y).map V.str)) → Q (.ref p) H1
end
/-! ### the rows of a text -/
def glue (c : Nat) : List (List Nat) → List Nat
  | [] => []
  | [a] => a
  | a :: b :: r => a ++ c :: glue c (b :: r)
end L2

set_option Elab.async false
set_option linter.all false
set_option maxRecDepth 100000
set_option maxHeartbeats 4000000
namespace L2
open PySem PySem.Spec PyProof.Rows
def endsL (c : Nat) : List (List Nat) → List Nat
  | [] => []
  | r :: rs => r ++ c :: endsL c rs
end L2

set_option Elab.async false
set_option linter.all false
set_option maxRecDepth 100000
set_option maxHeartbeats 4000000
namespace L2
open PySem PySem.Spec PyProof.Rows
section
variable {X : Cx} {K : PySem.W.Frag} {σ : St} {H : Hp} {Q : VK}
/-! ### sorted(a list of whole numbers), sorted(a list of texts): fewer than 64 -/
theorem strsVals : ∀ {us : List Value} {ss : List Str}, StrsAre us ss → Vals (ss.map V.str) us
  | _, _, .nil => .nil
  | _, _, .cons n t h => .cons ⟨_, rfl⟩ (strsVals h)
theorem Vals.len {xs : List V} {us : List Value} (h : Vals xs us) : us.length = xs.length := by
  induction h with
  | nil => rfl
  | cons _ _ ih => simp only [List.length_cons, ih]
theorem sorted_lay {pins : List (Addr × Obj)} {s : Shared} {xs : List V} {vs : List Value} {out : Array Value} {tk : Nat} (I : Inv X pins σ H s) (hz : xs.length ≤ sizeLine) (r : Vals xs out.toList)
    (q : ∀ l H1, H l = none → Same H H1 → H1 l = some (.lst xs) → Q (.ref l) H1) : EP X pins σ Q (.ref (s.heap.objs.size + 1)) { s with heap := sortedAll s.heap vs out, toks := tk } := by
  obtain ⟨e, he⟩ := sortedAll_at s.heap vs out
  have hn : H (s.heap.objs.size + 1) = none := I.hok.fresh (Nat.le_succ _)
  refine ⟨.ref (s.heap.objs.size + 1), _, I.laid (a := s.heap.objs.size + 1) (o := .lst xs) (t' := tk) (fun b u => sortedAll_old) (Nat.le_succ _) ⟨hz, out.toList, e, r, ?_⟩, rfl, q _ _ hn (same_new hn) upd_same⟩
  exact he
def rSortI (K : PySem.W.Frag) : List V → Hp → VK → Prop := fun xs H Q => ∃ p ns, xs = [.ref p] ∧ SqL K H p (ns.map V.int) ∧ ns.length < 64 ∧ ∀ ns' l H1, ns'.Perm ns → List.Pairwise (fun x y => x ≤ y) ns' → H l = none → Same H H1 → H1 l = some (.lst (ns'.map V.int)) → Q (.ref l) H1
def rSortS (K : PySem.W.Frag) : List V → Hp → VK → Prop := fun xs H Q => ∃ p ns, xs = [.ref p] ∧ SqL K H p (ns.map V.str) ∧ ns.length < 64 ∧ ∀ ns' l H1, ns'.Perm ns → sortedS ns' = true → H l = none → Same H H1 → H1 l = some (.lst (ns'.map V.str)) → Q (.ref l) H1
theorem c_sortS : CallR X (.builtin "sorted") (rSortS X.K) := by
  intro pins s σ H xs us Q I r h
  obtain ⟨p, ns, rfl, hp, hl, q⟩ := h
  obtain ⟨u, rfl, ru⟩ := vals1 r
  cases (show u = Value.ref p from ru)
  obtain ⟨its, r', pl, _⟩ := I.list hp
  refine sorted_strs pl.isList (strsAre_of r') (by rw [r'.len, List.length_map]; exact hl) fun out ns' i pm pw => ?_
  exact sorted_lay I (by rw [List.length_map, pm.length_eq, sizeLine_eq]; omega) (strsVals i) fun l H1 h1 h2 h3 => q ns' l H1 pm pw h1 h2 h3
theorem rd_sortS {p : Addr} (ns : List Str) (h1 : SqL K H p (ns.map V.str)) (h2 : ns.length < 64) (q : ∀ ns' l H1, ns'.Perm ns → sortedS ns' = true → H l = none → Same H H1 → H1 l = some (.lst (ns'.map V.str)) → Q (.ref l) H1) : rSortS K [.ref p] H Q := ⟨p, ns, rfl, h1, h2, q⟩
end
end L2

set_option Elab.async false
set_option linter.all false
set_option maxRecDepth 100000
set_option maxHeartbeats 4000000
namespace L2
open PySem PySem.Spec PyProof.Rows
section
variable {X : Cx} {K : PySem.W.Frag} {σ : St} {H : Hp} {Q : VK} {o e : Expr} {es : List Expr} {to te : TE} {t : TA} {apos cpos pos p2 : Pos}
/-! ### text.endswith(text); what begins and ends with what -/
def rEnds : V → List V → Hp → VK → Prop := fun x vs H Q => ∃ z y, x = .str z ∧ vs = [.str y] ∧ Q (.bl (Txt.endswith z y)) H
end
end L2

set_option Elab.async false
set_option linter.all false
set_option maxRecDepth 100000
set_option maxHeartbeats 4000000
namespace L2
open PySem PySem.Spec PyProof.Rows
end L2

set_option Elab.async false
set_option linter.all false
set_option maxRecDepth 100000
set_option maxHeartbeats 4000000
namespace L2
open PySem PySem.Spec PyProof.Rows
section
variable {K : PySem.W.Frag} {σ : St} {H : Hp} {Q : VK} {ix : List Nat} {te : TE} {tt : TT}
/-! ### comprehensions with a test, told by an invariant -/
end
end L2

set_option Elab.async false
set_option linter.all false
set_option maxRecDepth 100000
set_option maxHeartbeats 4000000
namespace L2
open PySem PySem.Spec PyProof.Rows
section
variable {X : Cx} {K : PySem.W.Frag} {σ : St} {H : Hp} {Q : VK}
/-! ### set(a list of whole numbers), and how many it has -/
def rSetI (K : PySem.W.Frag) : List V → Hp → VK → Prop := fun xs H Q => ∃ (p : Addr) (ns : List Int), xs = [.ref p] ∧ SqL K H p (ns.map V.int) ∧ ns.length < 4000 ∧ ns.Nodup ∧ ∀ S l H1, H l = none → Same H H1 → H1 l = some (.set S ns.length) → Q (.ref l) H1
def rLenI : List V → Hp → VK → Prop := fun xs H Q => ∃ p S n, xs = [.ref p] ∧ H p = some (.set S n) ∧ n < 4000 ∧ Q (.int (n : Nat)) H
end
end L2

set_option Elab.async false
set_option linter.all false
set_option maxRecDepth 100000
set_option maxHeartbeats 4000000
namespace PySem
open PySem PySem.Spec PySem.AutoSeq1
end PySem
namespace L2
open PySem PySem.Spec PyProof.Rows
section
variable {X : Cx} {K : PySem.W.Frag} {σ : St} {H : Hp} {Q : VK} {o e : Expr} {es : List Expr} {to te : TE} {t : TA} {apos cpos pos p2 : Pos}
/-! ### list.extend(a list), list.extend(a tuple) -/
def rExtendT (K : PySem.W.Frag) : V → List V → Hp → VK → Prop := fun x vs H Q => ∃ l b xs zs, x = .ref l ∧ vs = [.ref b] ∧ H l = some (.lst xs) ∧ SqT K H b zs ∧ xs.length + zs.length ≤ sizeLine ∧ Q .non (upd H l (.lst (xs ++ zs)))
/-! ### x in a list of whole numbers -/
end
end L2

set_option Elab.async false
set_option linter.all false
set_option maxRecDepth 100000
set_option maxHeartbeats 4000000
namespace L2
open PySem PySem.Spec PyProof.Rows
/-! ### a number's own figures -/
def numT (n : Nat) : Str := Str.ofString (toString (n : Int))
theorem numT_le {n k : Nat} (h : n < 10 ^ k) (hk : 1 ≤ k) : (numT n).length ≤ k := by
  have e := congrArg List.length (num_pad h hk)
  rw [padL_len, List.length_append, List.length_replicate] at e
  have : (Str.ofString (toString (n : Int))).cps.toList.length = (numT n).length := (len_list _).symm
  rw [this] at e
  have e2 : (Str.ofString (toString (n : Int))).length = (numT n).length := rfl
  omega
end L2

set_option Elab.async false
set_option linter.all false
set_option maxRecDepth 100000
set_option maxHeartbeats 4000000
namespace L2
open PySem PySem.Spec PyProof.Rows
section
variable {K : PySem.W.Frag} {σ : St} {H : Hp} {Q : VK} {ix : List Nat} {te : TE} {tt : TT}
/-! ### comprehensions over a tuple, told by an invariant -/
end
end L2

set_option Elab.async false
set_option linter.all false
set_option maxRecDepth 100000
set_option maxHeartbeats 4000000
namespace L2
open PySem PySem.Spec PyProof.Rows
section
variable {X : Cx} {K : PySem.W.Frag} {σ : St} {H : Hp} {Q : VK}
/-! ### set(a list of whole numbers), some of them alike -/
def distN (ns : List Int) : Nat := (ns.foldl step_dedup []).length
def rSetG (K : PySem.W.Frag) : List V → Hp → VK → Prop := fun xs H Q => ∃ (p : Addr) (ns : List Int), xs = [.ref p] ∧ SqL K H p (ns.map V.int) ∧ ns.length < 4000 ∧ ∀ S l H1, H l = none → Same H H1 → H1 l = some (.set S (distN ns)) → Q (.ref l) H1
end
/-! ### what a text is split into -/
end L2

set_option Elab.async false
set_option linter.all false
set_option maxRecDepth 100000
set_option maxHeartbeats 4000000
namespace L2
open PySem PySem.Spec PyProof.Rows
/-! ### an exception in flight: its object, its own dict, the newest row of its trace -/
def FlyT (h : Heap) (ea T : Addr) (cls : Value) (dc : Option Addr) : Prop := ∃ oe vs oT ts, h.get? ea = some oe ∧ oe.cls = cls ∧ oe.dict = dc ∧ oe.data = .fields vs ∧ vs[1]? = some (.ref T) ∧ T ≠ ea ∧ h.get? T = some oT ∧ oT.data = .fields ts ∧ ts[3]? = some .none
/-- what a change by a flight leaves: all but the exception, the newest row and the frames, of which the slots may change -/
structure Flown (fs : List Addr) (ea T : Addr) (h h' : Heap) : Prop where
  keep : ∀ b o, h.get? b = some o → b ≠ ea → b ≠ T → b ∉ fs → h'.get? b = some o
  slot : ∀ b o, h.get? b = some o → b ∈ fs → ∃ sl, h'.get? b = some { o with slots := sl }
theorem mapF_dict (f : Array Value → Array Value) (o : Obj) : (Obj.mapFields f o).dict = o.dict := by
  unfold Obj.mapFields
  split <;> rfl
section
variable {M : Model} {A : Around} {E : Value → Shared → Prop} {s : Shared} {Q : Unit → Shared → Prop} {env : Env} {outer : List Env} {base : Heap} {L ea T : Addr}
/-- a frame holds no record -/
theorem frame_no {l : List Env} {b : Addr} {o : Obj} {vs : Array Value} (hl : s.heap.FunFrames base l) (e : s.heap.get? b = some o) (d : o.data = .fields vs) : b ∉ frs l := fun hm => by
  obtain ⟨_, o2, ho2, hn2⟩ := hl.mem hm
  rw [e] at ho2
  cases ho2
  exact hn2 vs d
/-- a row is made and put ahead of the trace -/
theorem fly_row {oe : Obj} {vs : Array Value} {hd : Value} {b : Bool} (hfr : A.frames = some (env :: outer)) (hf : env.frame = some L) (hl : s.heap.FunFrames base (env :: outer))
    (he : s.heap.get? ea = some oe) (hv : oe.data = .fields vs) (hz : 1 < vs.size)
    (hQ : ∀ h1 T1 oT ts, s.heap.get? T1 = none → T1 ≠ ea → h1.get? ea = some (Obj.mapFields (·.setIfInBounds 1 (.ref T1)) oe) → h1.get? T1 = some oT → oT.data = .fields ts → 3 < ts.size → (∀ c o, s.heap.get? c = some o → c ≠ ea → c ∉ frs (env :: outer) → h1.get? c = some o) →
      (∀ c o, s.heap.get? c = some o → c ∈ frs (env :: outer) → ∃ sl, h1.get? c = some { o with slots := sl }) → Q () { s with heap := h1 }) :
    wpAny M A (do let x ← frameOf env; let pl ← entryPlaceOf L b; let y ← EntryCells.newEntry hd x .none (rawInt L) .none pl; setField (.ref ea) 1 y) Q E s := by
  refine wpAny_bind (wpAny_frameOf_fun hfr hl hf fun h0 so => ?_)
  refine wpAny_bind (wpAny_entryPlaceOf fun pl hpl => ?_)
  unfold EntryCells.newEntry newFields
  refine wpAny_bind (wpAny_newObj_type ?_ (hpl.sizeOk5 _ _ _ _ _))
  have hnf : ea ∉ frs (env :: outer) := frame_no hl he hv
  have e0 : h0.get? ea = some oe := (so.2.1 ea hnf).trans he
  obtain ⟨ot, hot⟩ : ∃ ot : Obj, ot = { cls := .type "traceback", dict := none, data := .fields ([hd, .ref L, .none, rawInt L, .none] ++ (if pl.isEmpty then List.replicate 6 Value.none else pl)).toArray } := ⟨_, rfl⟩
  rw [← hot]
  have hne : h0.objs.size ≠ ea := Nat.ne_of_gt (Heap.lt_size e0)
  have e1 : (h0.push ot).get? ea = some oe := Heap.get?_push_of_some _ e0
  refine wpAny_setField e1 hv hz ?_
  have fr : Obj.isFreed (Obj.mapFields (·.setIfInBounds 1 (Value.ref h0.objs.size)) oe) = false := Obj.isFreed_of_fields (Obj.data_mapFields hv _)
  refine hQ _ h0.objs.size ot _ (by rw [so.1]; exact Heap.get?_none_of_le (Nat.le_refl _)) hne (Heap.get?_update_self _ e1 fr) ?_ (by rw [hot]) ?_ (fun c o q n1 n2 => ?_) fun c o q hm => ?_
  · rw [Heap.get?_update_other _ _ (Ne.symm hne)]
    exact Heap.get?_push_size h0 (by rw [hot]; rfl)
  · simp only [List.size_toArray, List.length_append, List.length_cons, List.length_nil]
    omega
  · rw [Heap.get?_update_other _ _ (Ne.symm n1)]
    exact Heap.get?_push_of_some _ ((so.2.1 c n2).trans q)
  · obtain ⟨sl, q1⟩ := so.2.2 c o q
    have hce : ea ≠ c := fun z => hnf (by rw [z]; exact hm)
    exact ⟨sl, by rw [Heap.get?_update_other _ _ hce]; exact Heap.get?_push_of_some _ q1⟩
/-- the flight is noted as over -/
theorem fly_over {oe oT : Obj} {vs ts : Array Value} (he : s.heap.get? ea = some oe) (hv : oe.data = .fields vs) (h1 : vs[1]? = some (.ref T)) (hT : s.heap.get? T = some oT) (hd : oT.data = .fields ts) (hz : 3 < ts.size)
    (hQ : ∀ h1, (∀ c, c ≠ T → h1.get? c = s.heap.get? c) → h1.get? T = some (Obj.mapFields (·.setIfInBounds 3 .none) oT) → Q () { s with heap := h1 }) : wpAny M A (setFlight (.ref ea) none) Q E s := by
  unfold setFlight
  refine wpAny_bind (wpAny_field he hv h1 ?_)
  rw [if_pos (show (Value.ref T != Value.none) = true from by simp)]
  refine wpAny_setField hT hd hz ?_
  exact hQ _ (fun c n => Heap.get?_update_other _ _ (Ne.symm n)) (Heap.get?_update_self _ hT (Obj.isFreed_of_fields (Obj.data_mapFields hd _)))
/-- a row put ahead, then over -/
theorem fly_both {oe : Obj} {vs : Array Value} {hd cls : Value} {dc : Option Addr} {b : Bool} (hfr : A.frames = some (env :: outer)) (hf : env.frame = some L) (hl : s.heap.FunFrames base (env :: outer))
    (he : s.heap.get? ea = some oe) (hc : oe.cls = cls) (hdc : oe.dict = dc) (hv : oe.data = .fields vs) (hz : 1 < vs.size)
    (hQ : ∀ h1 T1, FlyT h1 ea T1 cls dc → s.heap.get? T1 = none → (∀ c o, s.heap.get? c = some o → c ≠ ea → c ∉ frs (env :: outer) → h1.get? c = some o) →
      (∀ c o, s.heap.get? c = some o → c ∈ frs (env :: outer) → ∃ sl, h1.get? c = some { o with slots := sl }) → Q () { s with heap := h1 }) :
    wpAny M A (do let x ← frameOf env; let pl ← entryPlaceOf L b; let y ← EntryCells.newEntry hd x .none (rawInt L) .none pl; setField (.ref ea) 1 y) (fun _ s1 => wpAny M A (setFlight (.ref ea) none) Q E s1) E s := by
  refine fly_row hfr hf hl he hv hz fun h1 T1 oT ts n0 n1 g1 g2 g3 g4 k1 k2 => ?_
  have d1 := Obj.data_mapFields hv (·.setIfInBounds 1 (Value.ref T1))
  refine fly_over (s := { s with heap := h1 }) g1 d1 (T := T1) (by simp [hz]) g2 g3 g4 fun h2 o2 t2 => ?_
  refine hQ h2 T1 ⟨_, _, _, _, (o2 _ (Ne.symm n1)).trans g1, by rw [Obj.cls_mapFields]; exact hc, by rw [mapF_dict]; exact hdc, d1, by simp [hz], n1, t2, Obj.data_mapFields g3 _, by simp [g4]⟩ n0 (fun c o q a1 a2 => ?_) fun c o q hm => ?_
  · exact (o2 c (fun z => by rw [z, n0] at q; cases q)).trans (k1 c o q a1 a2)
  · obtain ⟨sl, q1⟩ := k2 c o q hm
    exact ⟨sl, (o2 c (fun z => by rw [z, n0] at q; cases q)).trans q1⟩
/-- the newest row is no longer in flight; then a new one, over too -/
theorem fly_next {cls : Value} {dc : Option Addr} (hfr : A.frames = some (env :: outer)) (hf : env.frame = some L) (hl : s.heap.FunFrames base (env :: outer))
    (F : FlyT s.heap ea T cls dc) (hQ : ∀ h' T', FlyT h' ea T' cls dc → (T' = T ∨ s.heap.get? T' = none) → Flown (frs (env :: outer)) ea T s.heap h' → Q () { s with heap := h' }) :
    wpAny M A (noteFrame (.ref ea) env) (fun _ s1 => wpAny M A (setFlight (.ref ea) none) Q E s1) E s := by
  obtain ⟨oe, vs, oT, ts, he, hc, hdc, hv, h1, hTe, hT, hdT, h3⟩ := F
  have z3 : 3 < ts.size := (Array.getElem?_eq_some_iff.mp h3).1
  unfold noteFrame
  simp only [hf]
  refine wpAny_bind (wpAny_field he hv h1 ?_)
  rw [if_pos (show (Value.ref T != Value.none) = true from by simp)]
  refine wpAny_bind (wpAny_field hT hdT h3 ?_)
  rw [if_neg (show ¬ ((Value.none == rawInt L) = true) from by simp [rawInt])]
  refine wpAny_bind (wpAny_setField hT hdT z3 ?_)
  have ot : ∀ c, c ≠ T → (s.heap.update T (Obj.mapFields (·.setIfInBounds 3 Value.none))).get? c = s.heap.get? c := fun c n => Heap.get?_update_other _ _ (Ne.symm n)
  have sT : (s.heap.update T (Obj.mapFields (·.setIfInBounds 3 Value.none))).get? T = some (Obj.mapFields (·.setIfInBounds 3 Value.none) oT) := Heap.get?_update_self _ hT (Obj.isFreed_of_fields (Obj.data_mapFields hdT _))
  have hTf : T ∉ frs (env :: outer) := frame_no hl hT hdT
  have hl1 : (s.heap.update T (Obj.mapFields (·.setIfInBounds 3 Value.none))).FunFrames base (env :: outer) := hl.of_keeps fun c o q hn => ⟨o, (ot c (fun z => by rw [z, hT] at q; cases q; exact hn _ hdT)).trans q, rfl⟩
  refine fly_both (s := { s with heap := s.heap.update T (Obj.mapFields (·.setIfInBounds 3 Value.none)) }) hfr hf hl1 ((ot ea (Ne.symm hTe)).trans he) hc hdc hv (Array.getElem?_eq_some_iff.mp h1).1 fun h2 T2 F2 n2 k1 k2 => ?_
  refine hQ h2 T2 F2 (.inr ?_) ⟨fun c o q a1 a2 a3 => k1 c o ((ot c a2).trans q) a1 a3, fun c o q hm => k2 c o ((ot c (fun z => hTf (by rw [← z]; exact hm))).trans q) hm⟩
  by_cases z : T2 = T
  · subst z; rw [sT] at n2; cases n2
  · rw [← ot T2 z]; exact n2
theorem fly_leave {cls : Value} {dc : Option Addr} (hfr : A.frames = some (env :: outer)) (hf : env.frame = some L) (hl : s.heap.FunFrames base (env :: outer))
    (F : FlyT s.heap ea T cls dc) (hQ : ∀ h' T', FlyT h' ea T' cls dc → (T' = T ∨ s.heap.get? T' = none) → Flown (frs (env :: outer)) ea T s.heap h' → Q () { s with heap := h' }) : wpAny M A (leaving env (.ref ea)) Q E s :=
  wpAny_bind (fly_next hfr hf hl F hQ)
/-- the first frame that it leaves -/
theorem fly_first {oe : Obj} {t0 : Value} {r : List Value} {cls : Value} {dc : Option Addr} (hfr : A.frames = some (env :: outer)) (hf : env.frame = some L) (hl : s.heap.FunFrames base (env :: outer))
    (he : s.heap.get? ea = some oe) (hc : oe.cls = cls) (hdc : oe.dict = dc) (hv : oe.data = .fields (t0 :: Value.none :: r).toArray)
    (hQ : ∀ h' T', FlyT h' ea T' cls dc → s.heap.get? T' = none → Flown (frs (env :: outer)) ea ea s.heap h' → Q () { s with heap := h' }) : wpAny M A (leaving env (.ref ea)) Q E s := by
  unfold leaving noteFrame
  simp only [hf]
  refine wpAny_bind (wpAny_bind (wpAny_field he hv (x := .none) (by simp) ?_))
  rw [if_neg (by decide)]
  exact fly_both hfr hf hl he hc hdc hv (by simp) fun h1 T1 F1 n1 k1 k2 => hQ h1 T1 F1 n1 ⟨fun c o q a1 _ a3 => k1 c o q a1 a3, k2⟩
end
end L2

set_option Elab.async false
set_option linter.all false
set_option maxRecDepth 100000
set_option maxHeartbeats 4000000
namespace L2
open PySem PySem.Spec PyProof.Rows
theorem ObjOk.some {P : Program} {w : World} {H : Hp} {h : Heap} {a : Addr} {o : HO} (x : ObjOk P w H h a o) : ∃ ob, h.get? a = Option.some ob := by
  cases o with
  | lst xs => obtain ⟨_, _, _, _, e⟩ := x; exact ⟨_, e⟩
  | tup xs => obtain ⟨_, _, _, ob, e, _⟩ := x; exact ⟨_, e⟩
  | dK kvs => obtain ⟨_, _, _, _, o, _, _, e, _⟩ := x; exact ⟨_, e⟩
  | dT kvs => obtain ⟨_, _, _, _, o, _, _, e, _⟩ := x; exact ⟨_, e⟩
  | set S n => obtain ⟨o, _, _, _, e, _⟩ := x; exact ⟨_, e⟩
  | ins C dx fs => obtain ⟨_, _, _, e, _⟩ := x; exact ⟨_, e⟩
  | own y => obtain ⟨_, e⟩ := x; exact ⟨_, e⟩
  | xd fs => obtain ⟨_, ⟨_, _, _, e, _⟩, _⟩ := x; exact ⟨_, e⟩
  | rng lo hi => obtain ⟨_, _, _, e⟩ := x; exact ⟨_, e⟩
  | frz ob u => obtain ⟨e, _⟩ := x; exact ⟨_, e⟩
  | tbl ps => exact ⟨_, (show h.get? a = Option.some _ from x)⟩
  | met f y => exact ⟨_, (show h.get? a = Option.some _ from x)⟩
  | ext φ => obtain ⟨_, ⟨_, e⟩, _⟩ := x; exact ⟨_, e⟩
theorem HOk.none_of {P : Program} {w : World} {H : Hp} {h : Heap} {a : Addr} (x : HOk P w H h) (e : h.get? a = none) : H a = none := by
  cases q : H a with
  | none => rfl
  | some u =>
    obtain ⟨ob, e'⟩ := (x a u q).some
    rw [e] at e'
    cases e'
theorem HOk.flown {P : Program} {w : World} {H : Hp} {h h' : Heap} {fs : List Addr} {ea T : Addr} (x : HOk P w H h) (F : Flown fs ea T h h') (n1 : H ea = none) (n2 : H T = none) (n3 : ∀ b ∈ fs, H b = none) : HOk P w H h' := fun a o e => by
  have go : ∀ b u v, H b = some v → h.get? b = some u → h'.get? b = some u := fun b u v q r => F.keep b u r (ne_of_none q n1) (ne_of_none q n2) fun z => by rw [n3 b z] at q; cases q
  refine (x a o e).stay (fun b u hb q => ?_) (fun _ q => q) fun _ _ q => q
  rcases hb with rfl | hb
  · exact go b u o e q
  · exact go b u _ hb q
theorem Un.flown {fs : List Addr} {H H1 : Hp} {h0 h h' : Heap} {ea T L : Addr} (u : Un fs [] H H1 h0 h) (F : Flown (L :: fs) ea T h h') (hea : h0.get? ea = none) (hT : h0.get? T = none) (hL : h0.get? L = none) : Un fs [] H H1 h0 h' := by
  have ne : ∀ b o c, h0.get? b = some o → h0.get? c = none → b ≠ c := fun b o c e n z => by rw [z, n] at e; cases e
  refine ⟨fun b o e n hb hx => ?_, fun b o e n hb hx => ?_, u.free, fun b o e hx => ?_, u.tups, u.frzs, u.tbls⟩
  · exact F.keep b o (u.keep b o e n hb hx) (ne b o ea e hea) (ne b o T e hT) fun z => by
      rcases List.mem_cons.mp z with z | z
      · exact ne b o L e hL z
      · exact hb z
  · obtain ⟨sl, e1⟩ := u.slot b o e n hb hx
    obtain ⟨sl', e2⟩ := F.slot b _ e1 (List.mem_cons_of_mem _ hb)
    exact ⟨sl', e2⟩
  · obtain ⟨o1, e1⟩ := u.there b o e hx
    by_cases hm : b ∈ L :: fs
    · obtain ⟨sl, e2⟩ := F.slot b o1 e1 hm
      exact ⟨_, e2⟩
    · exact ⟨o1, F.keep b o1 e1 (ne b o ea e hea) (ne b o T e hT) hm⟩
/-- how an exception lies behind a call -/
def CXE (P : Program) (w : World) : CXT := fun outer H s E e s' => ∃ (ea T : Addr) (cls : Value) (dc : Option Addr) (H' : Hp), e = .ref ea ∧ s'.os = s.os ∧ AllBare s'.gens ∧ Un (frs outer) [] H H' s.heap s'.heap ∧ HOk P w H' s'.heap ∧ FlyT s'.heap ea T cls dc ∧
  s.heap.get? ea = none ∧ s.heap.get? T = none ∧ H' ea = none ∧ H' T = none ∧ E cls dc H'
section
variable {P : Program} {w : World} {K : PySem.W.Frag} {mg : Str → Option Value} {base : Heap} {N : List Str} {q : Str} {sc : Scope} {f : Addr} {cd : Value} {A : Around} {outer : List Env} {s₀ : Shared} {H₀ : Hp} {E : XK}
/-- what was not there at the entry -/
theorem Inv.new0 {X : Cx} {pins : List (Addr × Obj)} {σ : St} {H : Hp} {s : Shared} (I : Inv X pins σ H s) (hx : X.ex = []) {b : Addr} (e : s.heap.get? b = none) : X.s₀.heap.get? b = none := by
  cases r : X.s₀.heap.get? b with
  | none => rfl
  | some o =>
    obtain ⟨o', e'⟩ := I.base.there b o r (by rw [hx]; simp)
    rw [e] at e'
    cases e'
/-- raised here: it leaves the def -/
theorem raised_here {pins : List (Addr × Obj)} {σ : St} {H : Hp} {s : Shared} {ea : Addr} {oe : Obj} {t0 cls : Value} {r : List Value} {dc : Option Addr} (I : Inv (cxOf (CXE P w) P w K mg base N q sc f cd A outer s₀ H₀ E) pins σ H s) (he : s.heap.get? ea = some oe) (hc : oe.cls = cls) (hdc : oe.dict = dc)
    (hv : oe.data = .fields (t0 :: Value.none :: r).toArray) (nea : H ea = none) (n0 : s₀.heap.get? ea = none) (hE : E cls dc H) :
    (cxOf (CXE P w) P w K mg base N q sc f cd A outer s₀ H₀ E).xe (.ref ea) s := by
  show wpAny (model P w) _ (leaving _ (.ref ea)) (fun _ s'' => CXE P w outer H₀ s₀ E (.ref ea) s'') _ _
  refine fly_first I.ok.frames rfl I.stack he hc hdc hv fun h' T' F hT' Fl => ?_
  have nT : H T' = none := I.hok.none_of hT'
  have nL : s₀.heap.get? s₀.heap.objs.size = none := Heap.get?_none_of_le (Nat.le_refl _)
  exact ⟨ea, T', cls, dc, H, rfl, I.os, I.bare, I.base.flown Fl n0 n0 nL, I.hok.flown Fl nea nea I.stkFree, F, n0, I.new0 rfl hT', nea, nT, hE⟩
/-- one that comes out of a call: it leaves the def, too -/
theorem passes_on {EE : XK} (hEE : ∀ cls a H, EE cls a H → E cls a H) : Passes (CXE P w) (cxOf (CXE P w) P w K mg base N q sc f cd A outer s₀ H₀ E) EE := by
  intro pins σ H s e s' I h
  obtain ⟨ea, T, cls, dc, H', rfl, os, bare, un, hok, F, hea, hT, nea, nT, hE⟩ := h
  obtain ⟨hh, g, d, t, os'⟩ := s'
  obtain rfl : os' = s.os := os
  have I1 : Inv (cxOf (CXE P w) P w K mg base N q sc f cd A outer s₀ H₀ E) pins σ H' ⟨hh, g, d, t, s.os⟩ := I.call (h' := hh) (g' := g) (d' := d) (t' := t) (ch := []) un hok bare (fun b z => absurd z (by simp))
  show wpAny (model P w) _ (leaving _ (.ref ea)) (fun _ s'' => CXE P w outer H₀ s₀ E (.ref ea) s'') _ _
  refine fly_leave (s := ⟨hh, g, d, t, s.os⟩) I1.ok.frames rfl I1.stack F fun h' T' F' hT' Fl => ?_
  have nL : s₀.heap.get? s₀.heap.objs.size = none := Heap.get?_none_of_le (Nat.le_refl _)
  have e1 := I.new0 rfl hea
  have e2 := I.new0 rfl hT
  have e3 : s₀.heap.get? T' = none := by
    rcases hT' with rfl | z
    · exact e2
    · exact I1.new0 rfl z
  have n3 : H' T' = none := by
    rcases hT' with rfl | z
    · exact nT
    · exact hok.none_of z
  exact ⟨ea, T', cls, dc, H', rfl, I1.os, bare, I1.base.flown Fl e1 e2 nL, hok.flown Fl nea nT I1.stkFree, F', e1, e3, nea, n3, hEE _ _ _ hE⟩
end
end L2

set_option Elab.async false
set_option linter.all false
set_option maxRecDepth 100000
set_option maxHeartbeats 4000000
namespace L2
open PySem PySem.Spec PyProof.Rows
abbrev veMro : List Value := [.type "ValueError", .type "Exception", .type "BaseException", .type "object"]
/-- an own error class without an __init__ of its own, under ValueError -/
structure ExC (K : PySem.W.Frag) (mg : Str → Option Value) (x : Str) (C : Addr) : Prop where
  mgx : mg x = some (.ref C)
  ei : PySem.W.excIn K C veMro "ValueError.__new__" = true
/-- an exception that was made here leaves: its class, its own dict, the heap -/
def Throws (X : Cx) (E : XK) : Prop := ∀ (pins : List (Addr × Obj)) (σ : St) (H H0 : Hp) (s s0 : Shared) (ea : Addr) (oe : Obj) (t0 cls : Value) (r : List Value) (dc : Option Addr), Inv X pins σ H s → Inv X pins σ H0 s0 → s0.heap.get? ea = none → s.heap.get? ea = some oe → oe.cls = cls → oe.dict = dc → oe.data = .fields (t0 :: Value.none :: r).toArray → H ea = none → E cls dc H → X.xe (.ref ea) s
theorem throws_of {P : Program} {w : World} {K : PySem.W.Frag} {mg : Str → Option Value} {base : Heap} {N : List Str} {q : Str} {sc : Scope} {f : Addr} {cd : Value} {A : Around} {outer : List Env} {s₀ : Shared} {H₀ : Hp} {E : XK} : Throws (cxOf (CXE P w) P w K mg base N q sc f cd A outer s₀ H₀ E) E :=
  fun _ _ _ _ _ _ _ _ _ _ _ _ I I0 n he hc hdc hv nea hE => raised_here I he hc hdc hv nea (I0.new0 rfl n) hE
section
variable {X : Cx} {x : Str} {C : Addr} {E : XK} {e : Expr} {es : List Expr} {t : TA} {np cpos pos : Pos} {K : PySem.W.Frag} {σ : St} {H : Hp} {D : Ends}
def mkR (E : XK) (C : Addr) (vs : List V) (H : Hp) : Prop := vs.length ≤ sizeLine ∧ E (.ref C) none H
def tRaise (E : XK) (C : Addr) (t : TA) : TS := fun _ σ H => t σ H fun vs H1 => mkR E C vs H1
end
end L2

set_option Elab.async false
set_option linter.all false
set_option maxRecDepth 100000
set_option maxHeartbeats 4000000
namespace L2
open PySem PySem.Spec PyProof.Rows
section
variable {P : Program} {w : World} {K : PySem.W.Frag} {mg : Str → Option Value} {base : Heap}
/-- a def that may raise -/
theorem Fun.okE {x qual : Str} {st : Stmt} {f : Addr} {fd : FuncData} {N ps : List Str} {k : Nat} {sp : Sp} (F : Fun K x qual st f fd) (S : FnScope N ps (defScope st)) (len : ∀ vs H Q E, sp vs H Q E → vs.length = ps.length)
    (hbody : ∀ (cdv : Value) (A : Around) (outer : List Env) (s : Shared) (H : Hp) (vs : List V) (Q : VK) (E : XK), Room k (A.deeper (envOfC qual (defScope st) s.heap.objs.size f cdv)) → sp vs H Q E →
      ∃ t, BSs (cxOf (CXE P w) P w K mg base N qual (defScope st) f cdv A outer s H E) (defBody st) t ∧ t { nx := fun _ H' => Q .non H', rt := Q } (start N vs) H) : FnOk P w K mg base (CXE P w) (k + 1) f fd ps sp := by
  obtain ⟨oc, od, kV, doc, pm, an, cdv, ct, osl, rfl, lk, hcd⟩ := F.ex
  refine fn_of lk hcd S len fun A outer s H vs Q E hr hsp => ?_
  obtain ⟨t, h, q⟩ := hbody cdv A outer s H vs Q E hr hsp
  exact ⟨t, h.h, q⟩
end
section
variable {X : Cx} {x : Str} {sf : Stmt} {ps : List Str} {f : Addr} {fd : FuncData} {k : Nat} {sp : Sp} {e : Expr} {es : List Expr} {t : TA} {p pos : Pos} {E : XK}
end
end L2

set_option Elab.async false
set_option linter.all false
set_option maxRecDepth 100000
set_option maxHeartbeats 4000000
namespace L2
open PySem PySem.Spec PyProof.Rows
/-- the frame's own state behind a flight -/
theorem Inv.flown {X : Cx} {pins : List (Addr × Obj)} {σ : St} {H : Hp} {s : Shared} {h' : Heap} {ea T : Addr} {t' : Nat} (I : Inv X pins σ H s) (Fl : Flown (frs X.stack) ea T s.heap h') (nea : X.s₀.heap.get? ea = none) (nT : X.s₀.heap.get? T = none) (n1 : H ea = none) (n2 : H T = none)
    (p1 : ∀ p ∈ X.pn ++ pins, p.1 ≠ ea ∧ p.1 ≠ T) (l1 : ea ≠ X.env.locals ∧ T ≠ X.env.locals) (c1 : ∀ x c, X.env.cells.lookup x = some c → c ≠ ea ∧ c ≠ T) : Inv X pins σ H { s with heap := h', toks := t' } := by
  have sub : ∀ b, b ∉ X.fs → b ≠ X.env.locals → b ∉ frs X.stack := fun b h1 h2 z => (List.mem_cons.mp (I.stkSub b z)).elim h2 h1
  have any : ∀ b o, s.heap.get? b = some o → b ≠ ea → b ≠ T → ∃ sl, h'.get? b = some { o with slots := sl } := fun b o e m1 m2 => by
    by_cases hm : b ∈ frs X.stack
    · exact Fl.slot b o e hm
    · exact ⟨o.slots, Fl.keep b o e m1 m2 hm⟩
  have ne : ∀ b o c, X.s₀.heap.get? b = some o → X.s₀.heap.get? c = none → b ≠ c := fun b o c e n z => by rw [z, n] at e; cases e
  have neL : ∀ b o, X.s₀.heap.get? b = some o → b ≠ X.env.locals := fun b o e => Nat.ne_of_lt (Nat.lt_of_lt_of_le (Heap.lt_size e) I.ok.above)
  have cellK : ∀ x c, X.env.cells.lookup x = some c → ∀ v, s.heap.IsCell c v → h'.IsCell c v := fun x c e v ⟨o, ho, hd⟩ => by
    obtain ⟨sl, q⟩ := any c o ho (c1 x c e).1 (c1 x c e).2
    exact ⟨_, q, hd⟩
  refine ⟨I.ok, I.os, I.bare, ⟨fun b o e n hb hx => ?_, fun b o e n hb hx => ?_, I.base.free, fun b o e hx => ?_, I.base.tups, I.base.frzs, I.base.tbls⟩, ?_, fun x c e => ?_, I.free, I.freeC, fun p hp => ?_, I.hok.flown Fl n1 n2 I.stkFree, I.len⟩
  · exact Fl.keep b o (I.base.keep b o e n hb hx) (ne b o ea e nea) (ne b o T e nT) (sub b hb (neL b o e))
  · obtain ⟨sl, e1⟩ := I.base.slot b o e n hb hx
    obtain ⟨sl', e2⟩ := any b _ e1 (ne b o ea e nea) (ne b o T e nT)
    exact ⟨sl', e2⟩
  · obtain ⟨o1, e1⟩ := I.base.there b o e hx
    obtain ⟨sl, e2⟩ := any b o1 e1 (ne b o ea e nea) (ne b o T e nT)
    exact ⟨_, e2⟩
  · obtain ⟨m, ⟨o, es, ep, ho, r⟩, hl⟩ := I.loc
    obtain ⟨sl, e2⟩ := any _ o ho (Ne.symm l1.1) (Ne.symm l1.2)
    refine ⟨m, ⟨_, es, ep, e2, r⟩, fun i x v e1 e2 e3 => ?_⟩
    obtain ⟨u, r, l⟩ := hl i x v e1 e2 e3
    refine ⟨u, r, ?_⟩
    rcases l with l | ⟨k, c, e, z⟩
    · exact .inl l
    · exact .inr ⟨k, c, e, cellK x c e _ z⟩
  · obtain ⟨v, z⟩ := I.cell x c e
    exact ⟨v, cellK x c e v z⟩
  · obtain ⟨e, n, m1, m2, d⟩ := I.pin p hp
    exact ⟨Fl.keep p.1 p.2 e (p1 p hp).1 (p1 p hp).2 (sub p.1 m2 m1), n, m1, m2, d⟩
/-- the same context within an except suite: e is being handled -/
def Cx.held (X : Cx) (e : Value) (E : Value → Shared → Prop) : Cx := { X with A := X.A.mark (some e), calm := false, xe := E }
theorem Inv.held {X : Cx} {pins : List (Addr × Obj)} {σ : St} {H : Hp} {s : Shared} (I : Inv X pins σ H s) (e : Value) (E : Value → Shared → Prop) : Inv (X.held e E) pins σ H s :=
  ⟨⟨I.ok.mod, I.ok.kind, I.ok.glob, I.ok.blt, I.ok.above, I.ok.inj, I.ok.has, I.ok.cab, fun h => absurd (show false = true from h) (by decide), I.ok.frames, I.ok.stk, I.ok.exf, I.ok.bs, I.ok.bsz, I.ok.noex, I.ok.exfs, I.ok.funs, I.ok.frf⟩, I.os, I.bare, I.base, I.loc, I.cell, I.free, I.freeC, I.pin, I.hok, I.len⟩
end L2

set_option Elab.async false
set_option linter.all false
set_option maxRecDepth 100000
set_option maxHeartbeats 4000000
namespace L2
open PySem PySem.Spec PyProof.Rows
/-- an object of the class C; of its dict nothing is said -/
def OfCls (h : Heap) (x C : Addr) : Prop := ∃ o, h.get? x = some o ∧ o.cls = .ref C
theorem OfCls.type {M : Model} {h : Heap} {x C : Addr} (I : OfCls h x C) : PySem.W.Looks M h (typeOf (.ref x)) (.ref C) := by
  obtain ⟨o, e, c⟩ := I
  exact c ▸ (PySem.W.Looks.ld e).andThen .now
/-- does an exception of the class C match the class C'? -/
theorem matches_own {P : Program} {w : World} {A : Around} {E : Value → Shared → Prop} {K : PySem.W.Frag} {s : Shared} {e C C' : Addr} {b : Bool} {Q : Bool → Shared → Prop} (X : K.In s.heap) (T : OfCls s.heap e C)
    (hb : PySem.W.kitCls K (.ref C') (.type "BaseException") = some true) (hc : PySem.W.kitCls K (.ref C) (.ref C') = some b) (hq : Q b s) : wpAny (model P w) A (excMatches (.ref e) (.ref C')) Q E s := by
  obtain ⟨hh, g, d, t, os⟩ := s
  obtain ⟨c1, c2, c3⟩ := PySem.W.kit_cls (M := model P w) X hc
  obtain ⟨_, _, c4⟩ := PySem.W.kit_cls (M := model P w) X hb
  have ty := T.type (M := model P w)
  have nt : PySem.W.Looks (model P w) hh (isSubtype (.type "type") (.type "tuple")) false := PySem.W.Looks.of_pure tc_notTuple
  have li : PySem.W.Looks (model P w) hh (isInstance (.ref C') (.type "tuple")) false := c1.andThen nt
  have ec : PySem.W.Looks (model P w) hh (isExcClass (.ref C')) true := c2.andThen c4
  unfold excMatches
  refine wpAny_bind (li.at ?_)
  simp only [Bool.false_eq_true, if_false]
  repeat (first | lk | wp_step)
  cases b <;> (wp_walk; exact hq)
end L2

set_option Elab.async false
set_option linter.all false
set_option maxRecDepth 100000
set_option maxHeartbeats 4000000
namespace L2
open PySem PySem.Spec PyProof.Rows
section
variable {X : Cx} {pins : List (Addr × Obj)} {σ : St} {H : Hp} {s : Shared}
/-- a local name that has a value is unbound -/
theorem unbind_ok {M : Model} {A : Around} {E : Value → Shared → Prop} {i : Nat} {x : Str} {v : V} {Q : Unit → Shared → Prop} (I : Inv X pins σ H s) (hN : X.N.Nodup) (hi : X.N[i]? = some x) (hk : X.env.scope.names.lookup x = some .local) (hv : σ[i]? = some (some v))
    (h : ∀ s', Inv X pins (σ.set i none) H s' → Q () s') : wpAny M A (unbindName X.env x) Q E s := by
  obtain ⟨m, hn, hl⟩ := id I.loc
  have hcls : (X.env.scope.kind == .class || (X.env.scope.kind == .module && X.env.locals != X.env.globals)) = false := by rw [I.ok.kind]; rfl
  have hiσ : i < σ.length := by rw [I.len]; exact (List.getElem?_eq_some_iff.mp hi).1
  have cne := I.cne
  obtain ⟨u0, _, lk⟩ := hl i x v hi hv (.inl hk)
  have hm : m x = some u0 := by
    rcases lk with ⟨_, e⟩ | ⟨k, _⟩
    · exact e
    · have hk' : X.env.kindOf x = some .local := hk
      rw [hk'] at k
      rcases k with k | k <;> cases k
  obtain ⟨oL, _, _, hoL, _⟩ := id hn
  refine wpAny_unbindName_local hk hn hm hcls fun h' u hn' hs => ?_
  have tr : HOk X.prog X.w H h' := fun b ob e => by
    have hfree := I.free
    refine (I.hok b ob e).stay (fun c w' hc q => (hs.2 c ?_).trans q) (fun _ q => q) fun _ _ q => q
    rintro rfl
    rcases hc with rfl | hc
    · rw [hfree] at e; cases e
    · rw [hfree] at hc; cases hc
  refine h _ ⟨I.ok, I.os, I.bare, ⟨fun b o e n hb hx => ?_, fun b o e n hb hx => ?_, I.base.free, fun b o e hx => ?_, I.base.tups, I.base.frzs, I.base.tbls⟩, ⟨_, hn', fun j y v' e1 e2 e3 => ?_⟩, fun y c e => ?_, I.free, I.freeC, fun p hp => ?_, tr, by simpa using I.len⟩
  · exact (hs.2 b (Nat.ne_of_lt (Nat.lt_of_lt_of_le (Heap.lt_size e) I.ok.above))).trans (I.base.keep b o e n hb hx)
  · obtain ⟨sl, e1⟩ := I.base.slot b o e n hb hx
    exact ⟨sl, (hs.2 b (Nat.ne_of_lt (Nat.lt_of_lt_of_le (Heap.lt_size e) I.ok.above))).trans e1⟩
  · obtain ⟨o', e1⟩ := I.base.there b o e hx
    exact ⟨o', (hs.2 b (Nat.ne_of_lt (Nat.lt_of_lt_of_le (Heap.lt_size e) I.ok.above))).trans e1⟩
  · by_cases hj : j = i
    · subst hj
      rw [List.getElem?_set_self hiσ] at e2
      cases e2
    · rw [List.getElem?_set_ne (Ne.symm hj)] at e2
      obtain ⟨u', r', q⟩ := hl j y v' e1 e2 e3
      refine ⟨u', r', ?_⟩
      rcases q with ⟨k, e⟩ | ⟨k, c, e, z⟩
      · refine .inl ⟨k, ?_⟩
        have : y ≠ x := fun e => hj (nodup_ix hN e1 (e ▸ hi))
        simp [this, e]
      · exact .inr ⟨k, c, e, z.sameBut hs (cne y c e)⟩
  · obtain ⟨w', z⟩ := I.cell y c e
    exact ⟨w', z.sameBut hs (cne y c e)⟩
  · obtain ⟨e, n, ne, nf, d⟩ := I.pin p hp
    exact ⟨(hs.2 p.1 ne).trans e, n, ne, nf, d⟩
/-- the name of an except clause goes behind its suite -/
theorem name_goes {M : Model} {A : Around} {E : Value → Shared → Prop} {i : Nat} {x : Str} {pos : Pos} {Q : Unit → Shared → Prop} (I : Inv X pins σ H s) (hN : X.N.Nodup) (hi : X.N[i]? = some x) (hk : X.env.scope.names.lookup x = some .local)
    (h : ∀ s', Inv X pins (σ.set i none) H s' → Q () s') : wpAny M A (do bindName X.env x .none; unbindBehindTheSuite X.env x pos) Q E s := by
  have hiσ : i < σ.length := by rw [I.len]; exact (List.getElem?_eq_some_iff.mp hi).1
  refine wpAny_bind (wpAny_bindName (store_ok (v := .non) I hN hi (.inl hk) rfl (fun s1 I1 => ?_) (.inr hk)))
  unfold unbindBehindTheSuite
  refine wpAny_onRaise (unbind_ok I1 hN hi hk (List.getElem?_set_self hiσ) fun s2 I2 => h s2 ?_)
  rw [List.set_set] at I2
  exact I2
end
end L2

set_option Elab.async false
set_option linter.all false
set_option maxRecDepth 100000
set_option maxHeartbeats 4000000
namespace L2
open PySem PySem.Spec PyProof.Rows
/-! ### a call whose exceptions are wanted at the state where they come -/
def PassesS (CX : CXT) (X : Cx) (EX : St → XK) : Prop := ∀ (pins : List (Addr × Obj)) (σ : St) (H : Hp) (s : Shared) (e : Value) (s' : Shared), Inv X pins σ H s → CX X.stack H s (EX σ) e s' → X.xe e s'
def tCallS (sp : Sp) (dvs : List V) (EX : St → XK) (t : TA) : TE := fun σ H Q => t σ H fun vs H1 => sp (vs ++ dvs) H1 Q (EX σ)
section
variable {X : Cx} {CX : CXT} {k : Nat} {f C : Addr} {fd : FuncData} {ps : List Str} {sp : Sp} {dvs : List V} {ds : List Value} {EX : St → XK} {x m : Str} {p pos apos : Pos} {e o : Expr} {es : List Expr} {ta : TE} {t : TA} {sf : Stmt}
theorem run_fnS {pins : List (Addr × Obj)} {σ : St} {H : Hp} {s : Shared} {Q : VK} {us : List Value} {vs : List V} (F : FnOk X.prog X.w X.K X.mg X.base CX k f fd ps sp) (hr : Room k X.A) (hb : Binds X.K fd ps ds) (hd : Vals dvs ds) (hx : PassesS CX X EX)
    (I : Inv X pins σ H s) (r : Vals vs us) (h : sp (vs ++ dvs) H Q (EX σ)) : wpAny (model X.prog X.w) X.A (call (.ref f) us) (EP X pins σ Q) X.xe s := by
  have r2 : Vals (vs ++ dvs) (us ++ ds) := r.append hd
  have hl : (us ++ ds).length = ps.length := by rw [← r2.length]; exact F.len _ _ _ _ h
  refine wpAny_call (codeAny_mono (F.run X.A X.stack s H ⟨us, []⟩ (us ++ ds) (vs ++ dvs) Q (EX σ) hr I.env0 (hb s us I.kIn hl) r2 h) fun r s' hq => ?_)
  cases r with
  | error e => exact hx pins σ H s e s' I hq
  | ok fl =>
    cases fl with
    | ret u => exact I.after hq
    | next => exact False.elim hq
    | brk => exact False.elim hq
    | cont => exact False.elim hq
end
/-! ### the body of a try -/
/-- what is wanted of an exception that comes to a try of the context X -/
def ET (X : Cx) (pins : List (Addr × Obj)) (EX : St → XK) : Value → Shared → Prop := fun e s1 => ∃ (ea T : Addr) (cls : Value) (dc : Option Addr) (σ : St) (H : Hp), e = .ref ea ∧ Inv X pins σ H s1 ∧ FlyT s1.heap ea T cls dc ∧
  X.s₀.heap.get? ea = none ∧ X.s₀.heap.get? T = none ∧ H ea = none ∧ H T = none ∧ (∀ p ∈ X.pn ++ pins, p.1 ≠ ea ∧ p.1 ≠ T) ∧ (ea ≠ X.env.locals ∧ T ≠ X.env.locals) ∧ (∀ x c, X.env.cells.lookup x = some c → c ≠ ea ∧ c ≠ T) ∧ EX σ cls dc H
def Cx.tried (X : Cx) (pins : List (Addr × Obj)) (EX : St → XK) : Cx := { X with pn := X.pn ++ pins, xe := ET X pins EX }
section
variable {X : Cx} {pins pins' : List (Addr × Obj)} {EX : St → XK} {σ : St} {H : Hp} {s : Shared}
theorem Inv.tried (I : Inv X pins σ H s) : Inv (X.tried pins EX) [] σ H s :=
  ⟨⟨I.ok.mod, I.ok.kind, I.ok.glob, I.ok.blt, I.ok.above, I.ok.inj, I.ok.has, I.ok.cab, I.ok.hd, I.ok.frames, I.ok.stk, I.ok.exf, I.ok.bs, I.ok.bsz, I.ok.noex, I.ok.exfs, I.ok.funs, I.ok.frf⟩, I.os, I.bare, I.base, I.loc, I.cell, I.free, I.freeC, fun p hp => I.pin p (by simpa [Cx.tried] using hp), I.hok, I.len⟩
theorem Inv.untried (I : Inv (X.tried pins EX) pins' σ H s) : Inv X pins σ H s :=
  ⟨⟨I.ok.mod, I.ok.kind, I.ok.glob, I.ok.blt, I.ok.above, I.ok.inj, I.ok.has, I.ok.cab, I.ok.hd, I.ok.frames, I.ok.stk, I.ok.exf, I.ok.bs, I.ok.bsz, I.ok.noex, I.ok.exfs, I.ok.funs, I.ok.frf⟩, I.os, I.bare, I.base, I.loc, I.cell, I.free, I.freeC, fun p hp => I.pin p (List.mem_append_left _ hp), I.hok, I.len⟩
theorem SP.untried {D : Ends} {f : Flow} {s' : Shared} (h : SP (X.tried pins EX) pins' D f s') : SP X pins D f s' := by
  cases f with
  | next => obtain ⟨σ', H', I, q⟩ := h; exact ⟨σ', H', I.untried, q⟩
  | brk => obtain ⟨σ', H', I, q⟩ := h; exact ⟨σ', H', I.untried, q⟩
  | cont => obtain ⟨σ', H', I, q⟩ := h; exact ⟨σ', H', I.untried, q⟩
  | ret u => obtain ⟨v, σ', H', I, r, q⟩ := h; exact ⟨v, σ', H', I.untried, r, q⟩
theorem tried_passes (hx : X.ex = []) : PassesS (CXE X.prog X.w) (X.tried pins EX) EX := by
  intro pins' σ H s e s' I h
  obtain ⟨ea, T, cls, dc, H', rfl, os, bare, un, hok, F, hea, hT, nea, nT, hE⟩ := h
  have I0 : Inv X pins σ H s := I.untried
  have I1 : Inv X pins σ H' s' := I0.call' os un hok bare (fun b z => absurd z (by simp))
  have ne : ∀ b o c, s.heap.get? b = some o → s.heap.get? c = none → b ≠ c := fun b o c e n z => by rw [z, n] at e; cases e
  obtain ⟨m, ⟨o, es, ep, ho, _⟩, _⟩ := id I0.loc
  refine ⟨ea, T, cls, dc, σ, H', rfl, I1, F, I0.new0 hx hea, I0.new0 hx hT, nea, nT, fun p hp => ?_, ⟨Ne.symm (ne _ _ _ ho hea), Ne.symm (ne _ _ _ ho hT)⟩, fun x c e => ?_, hE⟩
  · have := (I0.pin p hp).1
    exact ⟨ne _ _ _ this hea, ne _ _ _ this hT⟩
  · obtain ⟨v, oc, hoc, _⟩ := I0.cell x c e
    exact ⟨ne _ _ _ hoc hea, ne _ _ _ hoc hT⟩
end
end L2

set_option Elab.async false
set_option linter.all false
set_option maxRecDepth 100000
set_option maxHeartbeats 4000000
namespace L2
open PySem PySem.Spec PyProof.Rows
/-- once more -/
theorem fly_land {M : Model} {A : Around} {E : Value → Shared → Prop} {s : Shared} {Q : Unit → Shared → Prop} {l : List Env} {base : Heap} {ea T : Addr} {cls : Value} {dc : Option Addr} (hl : s.heap.FunFrames base l)
    (F : FlyT s.heap ea T cls dc) (hQ : ∀ h' T', FlyT h' ea T' cls dc → (T' = T ∨ s.heap.get? T' = none) → Flown (frs l) ea T s.heap h' → Q () { s with heap := h' }) : wpAny M A (setFlight (.ref ea) none) Q E s := by
  obtain ⟨oe, vs, oT, ts, he, hc, hdc, hv, h1, hTe, hT, hdT, h3⟩ := F
  have z3 : 3 < ts.size := (Array.getElem?_eq_some_iff.mp h3).1
  have hTf : T ∉ frs l := frame_no hl hT hdT
  refine fly_over he hv h1 hT hdT z3 fun h2 o2 t2 => ?_
  refine hQ h2 T ⟨oe, vs, _, _, (o2 _ (Ne.symm hTe)).trans he, hc, hdc, hv, h1, hTe, t2, Obj.data_mapFields hdT _, by simp [z3]⟩ (.inl rfl) ⟨fun c o q a1 a2 a3 => (o2 c a2).trans q, fun c o q hm => ⟨o.slots, (o2 c (fun z => hTf (by rw [← z]; exact hm))).trans q⟩⟩
/-- b is nothing of the frame's own -/
structure Apart (X : Cx) (pins : List (Addr × Obj)) (H : Hp) (b : Addr) : Prop where
  old : X.s₀.heap.get? b = none
  free : H b = none
  pin : ∀ p ∈ X.pn ++ pins, p.1 ≠ b
  loc : b ≠ X.env.locals
  cell : ∀ x c, X.env.cells.lookup x = some c → c ≠ b
section
variable {X : Cx} {pins : List (Addr × Obj)} {σ : St} {H : Hp} {s : Shared} {h' : Heap} {ea T T' : Addr} {t' : Nat}
theorem Inv.flownA (I : Inv X pins σ H s) (Fl : Flown (frs X.stack) ea T s.heap h') (a : Apart X pins H ea) (b : Apart X pins H T) : Inv X pins σ H { s with heap := h', toks := t' } :=
  I.flown Fl a.old b.old a.free b.free (fun p hp => ⟨a.pin p hp, b.pin p hp⟩) ⟨a.loc, b.loc⟩ fun x c e => ⟨a.cell x c e, b.cell x c e⟩
theorem Inv.apart (I : Inv X pins σ H s) (hx : X.ex = []) (hea : s.heap.get? ea = none) : Apart X pins H ea := by
  have ne : ∀ b o c, s.heap.get? b = some o → s.heap.get? c = none → b ≠ c := fun b o c e n z => by rw [z, n] at e; cases e
  obtain ⟨m, ⟨o, es, ep, ho, _⟩, _⟩ := id I.loc
  refine ⟨I.new0 hx hea, I.hok.none_of hea, fun p hp => ne _ _ _ (I.pin p hp).1 hea, Ne.symm (ne _ _ _ ho hea), fun x c e => ?_⟩
  obtain ⟨v, oc, hoc, _⟩ := I.cell x c e
  exact ne _ _ _ hoc hea
theorem Apart.next (I : Inv X pins σ H s) (hx : X.ex = []) (a : Apart X pins H T) (h : T' = T ∨ s.heap.get? T' = none) : Apart X pins H T' := by
  rcases h with rfl | h
  · exact a
  · exact I.apart hx h
end
/-- the ends of an except suite: its name is gone behind it -/
def Ends.gone (D : Ends) (i : Nat) : Ends := { nx := fun σ H => D.nx (σ.set i none) H, rt := D.rt, bk := fun σ H => D.bk (σ.set i none) H, ct := fun σ H => D.ct (σ.set i none) H }
/-- the context of an except suite; the exception itself is pinned -/
def Cx.heldX (X : Cx) (ea : Addr) (oe : Obj) : Cx := { X with A := X.A.mark (some (.ref ea)), calm := false, xe := fun _ _ => False, pn := (ea, oe) :: X.pn }
section
variable {X : Cx} {pins : List (Addr × Obj)} {σ : St} {H : Hp} {s : Shared} {ea : Addr} {oe : Obj}
theorem Inv.heldX (I : Inv X pins σ H s) (a : Apart X pins H ea) (he : s.heap.get? ea = some oe) (hd : ∀ v, oe.data ≠ .cell v) : Inv (X.heldX ea oe) pins σ H s := by
  have J := I.held (.ref ea) fun _ _ => False
  refine ⟨⟨J.ok.mod, J.ok.kind, J.ok.glob, J.ok.blt, J.ok.above, J.ok.inj, J.ok.has, J.ok.cab, fun h => absurd (show false = true from h) (by decide), J.ok.frames, J.ok.stk, J.ok.exf, J.ok.bs, J.ok.bsz, J.ok.noex, J.ok.exfs, J.ok.funs, J.ok.frf⟩, I.os, I.bare, I.base, I.loc, I.cell, I.free, I.freeC, fun p hp => ?_, I.hok, I.len⟩
  rcases List.mem_cons.mp (show p ∈ (ea, oe) :: (X.pn ++ pins) from hp) with rfl | hp
  · refine ⟨he, a.free, a.loc, fun z => ?_, hd⟩
    obtain ⟨_, o, ho, _⟩ := I.ok.funs.mem z
    have := a.old
    rw [ho] at this
    cases this
  · exact I.pin p hp
theorem Inv.unheldX (ok : X.Ok) (I : Inv (X.heldX ea oe) pins σ H s) : Inv X pins σ H s :=
  ⟨ok, I.os, I.bare, I.base, I.loc, I.cell, I.free, I.freeC, fun p hp => I.pin p (List.mem_cons_of_mem _ hp), I.hok, I.len⟩
end
end L2

set_option Elab.async false
set_option linter.all false
set_option maxRecDepth 100000
set_option maxHeartbeats 4000000
namespace L2
open PySem PySem.Spec PyProof.Rows
/-! ### isinstance of an exception that is held -/
/-- a class, as a value -/
def isCl : V → Bool
  | .ref _ => true
  | .ty _ => true
  | _ => false
def vcl : V → Value
  | .ref a => .ref a
  | .ty n => .type n
  | _ => .none
theorem vcl_rel {v : V} {u : Value} (r : RelV v u) (h : isCl v = true) : u = vcl v := by
  cases v <;> first | exact r | cases h
theorem vcl_vals {xs : List V} {us : List Value} (r : Vals xs us) (h : xs.all isCl = true) : us = xs.map vcl := by
  induction r with
  | nil => rfl
  | cons a _ ih =>
    rw [List.all_cons, Bool.and_eq_true] at h
    rw [List.map_cons, ← vcl_rel a h.1, ← ih h.2]
/-- what is asked of the exception ea of the class C: one class, or a tuple of classes -/
def rIsX (K : PySem.W.Frag) (C ea : Addr) : List V → Hp → VK → Prop := fun xs H Q => ∃ c b, xs = [.ref ea, c] ∧
  ((isCl c = true ∧ PySem.W.kitOne K (.ref C) (vcl c) = some b) ∨ ∃ tp cs, c = .ref tp ∧ H tp = some (.tup cs) ∧ cs.all isCl = true ∧ PySem.W.kitAny K (.ref C) (cs.map vcl) = some b) ∧ Q (.bl b) H
section
variable {X : Cx} {ea C : Addr} {oe : Obj}
theorem call_isX (Z : PySem.W.KitX X.K (.ref ea) (.ref C) fun h => OfCls h ea C) (hp : (ea, oe) ∈ X.pn) (hc : oe.cls = .ref C) : CallR X (.builtin "isinstance") (rIsX X.K C ea) := by
  intro pins s σ H xs us Q I r h
  obtain ⟨c, b, rfl, hk, q⟩ := h
  obtain ⟨u, w', rfl, ru, rw'⟩ := vals2 r
  cases (show u = Value.ref ea from ru)
  have at_ : OfCls s.heap ea C := ⟨oe, (I.pin _ (List.mem_append_left _ hp)).1, hc⟩
  rcases hk with ⟨h1, h2⟩ | ⟨tp, cs, rfl, ht, h1, h2⟩
  · rw [← vcl_rel rw' h1] at h2
    exact PySem.W.kia_one Z I.kIn at_ h2 (fun z => nomatch z) fun tk => ⟨.bl b, H, I.tok tk, rfl, q⟩
  · cases (show w' = Value.ref tp from rw')
    obtain ⟨_, vs, rv, p⟩ := (show ObjOk X.prog X.w H s.heap tp (.tup cs) from I.hok tp _ ht)
    obtain ⟨o, g1, g2, n, g3⟩ := p
    rw [← vcl_vals rv h1] at h2
    obtain ⟨oc, od, oda, osl⟩ := o
    dsimp only at g2 g3
    subst g2 g3
    exact PySem.W.kia_tup Z I.kIn at_ g1 h2 (fun z => nomatch z) fun tk => ⟨.bl b, H, I.tok tk, rfl, q⟩
end
end L2

set_option Elab.async false
set_option linter.all false
set_option maxRecDepth 100000
set_option maxHeartbeats 4000000
namespace L2
open PySem PySem.Spec PySem.Calls PySem.W PyProof.Rows Builtin Builtin.ObjectAttr Builtin.Getset_descriptor
section
variable {P : Program} {w : World} {A : Around} {E : Value → Shared → Prop} {s : Shared} {K : PySem.W.Frag} {x C : Addr}
/-- a data descriptor of the class is found whatever the object's own dict says -/
theorem OfCls.finds {M : Model} {h : Heap} {name : Str} {a g : Value} (X : K.In h) (ha : findIn K (.ref C) name = some (some a)) (hg : specialIn K a "__get__" = some (some g)) (ht : takesIn K a = some true) :
    Looks M h (find (.ref x) (.ref C) name) (.bind g a) := by
  have f := looks_takesIn (M := M) X ht
  have d : Looks M h (dataDescriptor? (some a) (some g)) (some (g, a)) := f.andThen .now
  exact (looks_findIn X ha).andThen ((show Looks M h (getOf (some a)) (some g) from looks_specialIn X hg).andThen (d.andThen (.tag .now)))
/-- e.__class__ of it -/
theorem OfCls.class_of {Q : Option Value → Shared → Prop} (I : OfCls s.heap x C) (X : K.In s.heap) (hg : plainGet K C "__class__" = true) (ha : findIn K (.ref C) "__class__" = some (some (.builtin "object.__class__")))
    (hn : specialIn K (.builtin "object.__class__") "__get__" = some (some (.builtin "getset_descriptor.__get__"))) (ht : takesIn K (.builtin "object.__class__") = some true) (hm : mroIn K C (.type "object") = some true)
    (h : Q (some (.ref C)) { s with toks := s.toks + 1 }) : wpAny (model P w) A (getAttr? (.ref x) "__class__") Q E s := by
  obtain ⟨hh, g, d, t, os⟩ := s
  have L0 := I.type (M := model P w)
  have L1 := looks_findIn (M := model P w) X (plainGet_of hg).1
  have L2 := looks_findIn (M := model P w) X (plainGet_of hg).2
  have L3 := OfCls.finds (M := model P w) (x := x) X ha hn ht
  have L4 := looks_mroIn (M := model P w) X hm
  unfold getAttr? getAttrBy? getAttrBy
  refine wpAny_bind (wpAny_mkText (wpAny_bind (wpAny_attempt (wpAny_holding (wpAny_bind (L0.at (wpAny_bind (L1.at ?_))))))))
  refine wpAny_bind (wpAny_onRaise (wpAny_runValue (codeAny_builtin PySem.F.plainObj_entry_getattr_hooked ?_)))
  refine wpAny_bind (wpAny_pure (wpAny_bind (L0.at (wpAny_bind (L3.at (wpAny_bind (L2.at (wpAny_bind (wpAny_holding (wpAny_call ?_)))))))))) 
  refine codeAny_call_builtin KF.slot_gs.plain KF.entry_gs (KF.slot_gs.check _ _ _ _ _ _ _ _ KF.type_class (KF.args_gs _ _ _) ?_)
  simp only [Builtin.«getset_descriptor.__get__», descrGet, dga_obj, descrGetter, descrCheckInstance, descrNameAndClass, isInstance, KF.owner_class]
  refine wpAny_bind (wpAny_pure ?_)
  simp only [KF.owner_class]
  repeat lk
  refine ⟨Code.quiet_builtin _ (by decide +kernel), codeAny_builtin KF.entry_class ?_⟩
  simp only [Builtin.«object.__class__», shownTypeOf]
  repeat lk
  exact h
/-- what isinstance asks of such an object -/
structure ClsX (K : PySem.W.Frag) (C : Addr) : Prop where
  hg : plainGet K C "__class__" = true
  ha : findIn K (.ref C) "__class__" = some (some (.builtin "object.__class__"))
  hn : specialIn K (.builtin "object.__class__") "__get__" = some (some (.builtin "getset_descriptor.__get__"))
  ht : takesIn K (.builtin "object.__class__") = some true
  hm : mroIn K C (.type "object") = some true
  hk : kitCls K (.ref C) (.ref C) = some true
theorem ClsX.kit (c : ClsX K C) : KitX K (.ref x) (.ref C) fun h => OfCls h x C where
  ty := fun _ _ _ I => I.type
  it := fun _ _ X _ => (kit_cls X c.hk).2.1
  ne := fun h tp dd its n sl X htp => by
    refine Bool.eq_false_iff.mpr fun q => ?_
    cases Value.ref.inj (beq_iff_eq.mp q)
    obtain ⟨cd, e, _⟩ := Option.bind_eq_some_iff.mp c.hm
    unfold PySem.W.clsIn at e
    split at e
    · rename_i ho
      have z := (X _ _ ho).symm.trans htp
      cases z
    · cases e
  ca := fun X I k => I.class_of X c.hg c.ha c.hn c.ht c.hm k
end
section
variable {X : Cx} {ea C : Addr} {oe : Obj}
end
end L2

set_option Elab.async false
set_option linter.all false
set_option maxRecDepth 100000
set_option maxHeartbeats 4000000
namespace L2
open PySem PySem.Spec PySem.Calls PySem.W PyProof.Rows Builtin Builtin.ObjectAttr Builtin.Getset_descriptor
theorem entry_bx : entryFor table "BaseException.__getattribute__" = some Builtin.«object.__getattribute__» := entryFor_alias (id' := "object.__getattribute__") (by kernel_rfl) rfl (by decide +kernel) (by kernel_rfl)
theorem plain_bx : plainId "BaseException.__getattribute__" = true := by decide +kernel
theorem type_bx : typeOf (.builtin "BaseException.__getattribute__") = pure (.type "wrapper_descriptor") := by with_unfolding_all rfl
theorem args_bx (a b : Value) : argsOk "BaseException.__getattribute__" { pos := [a, b] } := by with_unfolding_all rfl
theorem kind_bx : builtinKind "BaseException.__getattribute__" = some .slot := by decide +kernel
theorem split_bx : splitId "BaseException.__getattribute__" = some ("BaseException", "__getattribute__") := by decide +kernel
end L2

set_option Elab.async false
set_option linter.all false
set_option maxRecDepth 100000
set_option maxHeartbeats 4000000
namespace L2
open PySem PySem.Spec PySem.Calls PySem.W PyProof.Rows Builtin Builtin.ObjectAttr Builtin.Getset_descriptor
section
variable {P : Program} {w : World} {A : Around} {E : Value → Shared → Prop} {s : Shared} {K : PySem.W.Frag} {x C : Addr}
theorem check_bx {Q : Unit → Shared → Prop} {b : Value} (I : OfCls s.heap x C) (X : K.In s.heap) (hb : mroIn K C (.type "BaseException") = some true) (h : Q () s) : wpAny (model P w) A (checkBuiltinCall "BaseException.__getattribute__" { pos := [.ref x, b] }) Q E s := by
  obtain ⟨hh, g, d, t, os⟩ := s
  unfold checkBuiltinCall
  rw [kind_bx, split_bx]
  dsimp only
  have L0 := I.type (M := model P w)
  have L4 := looks_mroIn (M := model P w) X hb
  refine wpAny_bind ?_
  unfold isInstance
  refine wpAny_bind (L0.at ?_)
  refine L4.at ?_
  rw [if_neg (by decide)]
  have e := args_bx (.ref x) b
  unfold argsOk at e
  revert e
  cases Manifest.signature? "BaseException.__getattribute__" with
  | none => intro _; exact wpAny_pure h
  | some sig => intro e; dsimp only at e ⊢; rw [e]; exact wpAny_pure h
/-- e.__class__ of an exception of an own class -/
theorem OfCls.class_ofX {Q : Option Value → Shared → Prop} (I : OfCls s.heap x C) (X : K.In s.heap) (hg1 : findIn K (.ref C) "__getattribute__" = some (some (.builtin "BaseException.__getattribute__"))) (hg2 : findIn K (.ref C) "__getattr__" = some none) (hb : mroIn K C (.type "BaseException") = some true)
    (ha : findIn K (.ref C) "__class__" = some (some (.builtin "object.__class__")))
    (hn : specialIn K (.builtin "object.__class__") "__get__" = some (some (.builtin "getset_descriptor.__get__"))) (ht : takesIn K (.builtin "object.__class__") = some true) (hm : mroIn K C (.type "object") = some true)
    (h : Q (some (.ref C)) { s with toks := s.toks + 1 }) : wpAny (model P w) A (getAttr? (.ref x) "__class__") Q E s := by
  obtain ⟨hh, g, d, t, os⟩ := s
  have L0 := I.type (M := model P w)
  have L1 := looks_findIn (M := model P w) X hg1
  have L2 := looks_findIn (M := model P w) X hg2
  have L3 := OfCls.finds (M := model P w) (x := x) X ha hn ht
  have L4 := looks_mroIn (M := model P w) X hm
  unfold getAttr? getAttrBy? getAttrBy
  refine wpAny_bind (wpAny_mkText (wpAny_bind (wpAny_attempt (wpAny_holding (wpAny_bind (L0.at (wpAny_bind (L1.at ?_))))))))
  dsimp only
  rw [if_neg (by intro z; exact absurd (Bool.and_eq_true _ _ ▸ z : _ ∧ _).2 (by decide))]
  unfold getAttrByItsOwn hookBefore
  rw [if_pos (by rfl)]
  refine wpAny_bind (L2.at ?_)
  refine wpAny_bind (wpAny_attempt (wpAny_holding ?_))
  unfold callGetattribute
  rw [if_neg (by decide)]
  unfold boundAndCalled bindSpecial
  rw [type_bx]
  refine wpAny_bind (wpAny_bind (wpAny_pure ?_))
  rw [if_pos (by decide)]
  refine wpAny_pure ?_
  dsimp only [List.cons_append, List.nil_append]
  refine wpAny_call (codeAny_call_builtin plain_bx entry_bx (check_bx (K := K) I X hb ?_))
  unfold Builtin.«object.__getattribute__»
  refine wpAny_bind (show wpAny _ _ (pure (Value.ref x, [Value.str "__class__" t])) _ _ _ from wpAny_pure ?_)
  dsimp only
  refine wpAny_bind (show wpAny _ _ (pure ("__class__" : Str)) _ _ _ from wpAny_pure ?_)
  refine wpAny_bind (L0.at (wpAny_bind (L3.at ?_)))
  dsimp only
  unfold bindTo
  dsimp only
  refine wpAny_bind (wpAny_holding (wpAny_call ?_))
  refine codeAny_call_builtin KF.slot_gs.plain KF.entry_gs (KF.slot_gs.check _ _ _ _ _ _ _ _ KF.type_class (KF.args_gs _ _ _) ?_)
  simp only [Builtin.«getset_descriptor.__get__», descrGet, dga_obj, descrGetter, descrCheckInstance, descrNameAndClass, isInstance, KF.owner_class]
  refine wpAny_bind (wpAny_pure ?_)
  simp only [KF.owner_class]
  repeat lk
  refine ⟨Code.quiet_builtin _ (by decide +kernel), codeAny_builtin KF.entry_class ?_⟩
  simp only [Builtin.«object.__class__», shownTypeOf]
  repeat lk
  exact h
/-- what isinstance asks of an exception of an own class -/
structure ClsY (K : PySem.W.Frag) (C : Addr) : Prop where
  hg1 : findIn K (.ref C) "__getattribute__" = some (some (.builtin "BaseException.__getattribute__"))
  hg2 : findIn K (.ref C) "__getattr__" = some none
  hb : mroIn K C (.type "BaseException") = some true
  ha : findIn K (.ref C) "__class__" = some (some (.builtin "object.__class__"))
  hn : specialIn K (.builtin "object.__class__") "__get__" = some (some (.builtin "getset_descriptor.__get__"))
  ht : takesIn K (.builtin "object.__class__") = some true
  hm : mroIn K C (.type "object") = some true
  hk : kitCls K (.ref C) (.ref C) = some true
theorem ClsY.kit (c : ClsY K C) : KitX K (.ref x) (.ref C) fun h => OfCls h x C where
  ty := fun _ _ _ I => I.type
  it := fun _ _ X _ => (kit_cls X c.hk).2.1
  ne := fun h tp dd its n sl X htp => by
    refine Bool.eq_false_iff.mpr fun q => ?_
    cases Value.ref.inj (beq_iff_eq.mp q)
    obtain ⟨cd, e, _⟩ := Option.bind_eq_some_iff.mp c.hm
    unfold PySem.W.clsIn at e
    split at e
    · rename_i ho
      have z := (X _ _ ho).symm.trans htp
      cases z
    · cases e
  ca := fun X I k => I.class_ofX X c.hg1 c.hg2 c.hb c.ha c.hn c.ht c.hm k
end
section
variable {X : Cx} {ea C : Addr} {oe : Obj}
theorem c_isY (c : ClsY X.K C) (hp : (ea, oe) ∈ X.pn) (hc : oe.cls = .ref C) : CallR X (.builtin "isinstance") (rIsX X.K C ea) := call_isX c.kit hp hc
end
end L2

set_option Elab.async false
set_option linter.all false
set_option maxRecDepth 100000
set_option maxHeartbeats 4000000
namespace L2
open PySem PySem.Spec PyProof.Rows
/-! ### a try of some clauses -/
/-- what the clauses do with an exception of the class C at ea -/
abbrev TH := Addr → Addr → Option Addr → TS
structure BH (X : Cx) (hs : List ExceptHandler) (t : TH) : Prop where
  h : ∀ (pins : List (Addr × Obj)) (s : Shared) (σ : St) (H : Hp) (D : Ends) (C ea T : Addr) (dc : Option Addr), Inv X pins σ H s → FlyT s.heap ea T (.ref C) dc → Apart X pins H ea → Apart X pins H T → t C ea dc D σ H → wpAny (model X.prog X.w) X.A (handleBy (.ref ea) X.env hs) (SP X pins D) X.xe s
/-- a clause with a name, a clause without one -/
def tHas (K : PySem.W.Frag) (i : Nat) (C' : Addr) (th tr : TH) : TH := fun C ea dc D σ H => ∃ b, PySem.W.kitCls K (.ref C) (.ref C') = some b ∧ if b = true then th C ea dc (D.gone i) (σ.set i (some (.ref ea))) H else tr C ea dc D σ H
def tH0 (K : PySem.W.Frag) (C' : Addr) (th tr : TH) : TH := fun C ea dc D σ H => ∃ b, PySem.W.kitCls K (.ref C) (.ref C') = some b ∧ if b = true then th C ea dc D σ H else tr C ea dc D σ H
def tHN : TH := fun _ _ _ _ _ _ => False
def tTryN (tb : (St → XK) → TS) (th : TH) : TS := fun D σ H => tb (fun σ' cls dc H' => ∃ C, cls = .ref C ∧ ∀ ea, H' ea = none → th C ea dc D σ' H') D σ H
section
variable {X : Cx} {i : Nat} {x n : Str} {C' : Addr} {body suite : List Stmt} {b₀ : Stmt} {tb : (St → XK) → TS} {th tr : TH} {np hpos pos : Pos} {hs : List ExceptHandler} {h₀ : ExceptHandler}
theorem SP.unheldX {pins : List (Addr × Obj)} {D : Ends} {f : Flow} {s' : Shared} {ea : Addr} {oe : Obj} (ok : X.Ok) (h : SP (X.heldX ea oe) pins D f s') : SP X pins D f s' := by
  cases f with
  | next => obtain ⟨σ', H', I, q⟩ := h; exact ⟨σ', H', I.unheldX ok, q⟩
  | brk => obtain ⟨σ', H', I, q⟩ := h; exact ⟨σ', H', I.unheldX ok, q⟩
  | cont => obtain ⟨σ', H', I, q⟩ := h; exact ⟨σ', H', I.unheldX ok, q⟩
  | ret u => obtain ⟨v, σ', H', I, r, q⟩ := h; exact ⟨v, σ', H', I.unheldX ok, r, q⟩
/-- none is left: nothing comes here -/
theorem bh_nil : BH X [] tHN := ⟨fun _ _ _ _ _ _ _ _ _ _ _ _ _ h => h.elim⟩
theorem bh_as (hx : X.ex = []) (hst : X.stack = X.env :: X.outer) (hN : X.N.Nodup) (hi : X.N[i]? = some n) (hk : X.env.scope.names.lookup n = some .local)
    (hm : X.mg x = some (.ref C')) (hC' : PySem.W.kitCls X.K (.ref C') (.type "BaseException") = some true) (hs1 : ∀ C ea oe dc, oe.cls = .ref C → oe.dict = dc → PySem.W.notCls oe = true → BSs (X.heldX ea oe) (b₀ :: suite) (th C ea dc)) (hr : BH X hs tr)
    (hg : Gl X x := by rfl) (hdb : (x == ("__debug__" : Str)) = false := by decide) : BH X (.ExceptHandler (some (.Name x np)) (some n) (b₀ :: suite) hpos :: hs) (tHas X.K i C' th tr) := ⟨by
  intro pins s1 σ1 H1 D C ea T dc I2 F2 a1 a3 ⟨b, hC, ht⟩
  have J2 := I2.held (.ref ea) fun _ _ => False
  refine wpAny_handleBy_cons (codeAny_handlers_test (ld_glob J2 hg hm ?_ hdb)) (by intro q; cases q)
  obtain ⟨oe, _, _, _, he, hcl, _⟩ := id F2
  refine matches_own I2.kIn ⟨oe, he, hcl⟩ hC' hC ?_
  cases b with
  | false => exact hr.h pins s1 σ1 H1 D C ea T dc I2 F2 a1 a3 ht
  | true =>
    refine codeAny_handlers_suite_as ?_
    refine fly_land (l := X.env :: X.outer) (hst ▸ I2.stack) F2 fun h3 T3 F3 n3 Fl3 => ?_
    have I3 : Inv X pins σ1 H1 { s1 with heap := h3 } := I2.flownA (t' := s1.toks) (hst ▸ Fl3) a1 a3
    obtain ⟨o3, _, _, _, he3, hcl3, hdc3, hd3, _⟩ := id F3
    have J3 := I3.heldX (oe := o3) a1 he3 fun v z => by rw [hd3] at z; cases z
    refine store_ok (X := X.heldX ea o3) (v := .ref ea) J3 hN hi (.inl hk) rfl (fun s4 I4 => ?_) (.inr hk)
    refine wpAny_mono ((hs1 C ea o3 dc hcl3 hdc3 (by unfold PySem.W.notCls; rw [hd3])).h pins s4 _ H1 (D.gone i) I4 ht) (fun f s5 q => ?_) fun _ _ q => q.elim
    have q' := SP.unheldX I2.ok q
    cases f with
    | next => obtain ⟨σ', H', I5, r⟩ := q'; exact name_goes I5 hN hi hk fun s6 I6 => ⟨_, _, I6, r⟩
    | brk => obtain ⟨σ', H', I5, r⟩ := q'; exact name_goes I5 hN hi hk fun s6 I6 => ⟨_, _, I6, r⟩
    | cont => obtain ⟨σ', H', I5, r⟩ := q'; exact name_goes I5 hN hi hk fun s6 I6 => ⟨_, _, I6, r⟩
    | ret u => obtain ⟨v, σ', H', I5, rv, r⟩ := q'; exact name_goes I5 hN hi hk fun s6 I6 => ⟨v, _, _, I6, rv, r⟩⟩
theorem bs_try (hx : X.ex = []) (hst : X.stack = X.env :: X.outer) (hfr : X.env.frame = some X.env.locals) (hb : ∀ pins EX, BSs (X.tried pins EX) body (tb EX)) (hh : BH X (h₀ :: hs) th) :
    BS X (.Try body (h₀ :: hs) [] [] pos) (tTryN tb th) := ⟨by
  intro pins s σ H D I h
  refine wpAny_Try_except (wpAny_mono ((hb pins _).h [] s σ H D I.tried h) (fun f s1 q => ?_) fun e s1 q => ?_)
  · have q' := SP.untried q
    cases f with
    | next => exact wpAny_execs_nil q'
    | brk => exact q'
    | cont => exact q'
    | ret u => exact q'
  · obtain ⟨ea, T, cls, dc, σ1, H1, rfl, I1, F1, e1, e2, e3, e4, e5, e6, e7, C, rfl, ht⟩ := q
    have a1 : Apart X pins H1 ea := ⟨e1, e3, fun p hp => (e5 p hp).1, e6.1, fun x c e => (e7 x c e).1⟩
    have a2 : Apart X pins H1 T := ⟨e2, e4, fun p hp => (e5 p hp).2, e6.2, fun x c e => (e7 x c e).2⟩
    have fr : X.A.frames = some (X.env :: X.outer) := by rw [I.ok.frames, hst]
    refine fly_next fr hfr (hst ▸ I1.stack) F1 fun h2 T2 F2 n2 Fl2 => ?_
    have I2 : Inv X pins σ1 H1 { s1 with heap := h2 } := I1.flownA (t' := s1.toks) (hst ▸ Fl2) a1 a2
    exact hh.h pins _ σ1 H1 D C ea T2 dc I2 F2 a1 (a2.next I1 hx n2) (ht ea e3)⟩
end
end L2

set_option Elab.async false
set_option linter.all false
set_option maxRecDepth 100000
set_option maxHeartbeats 4000000
namespace L2
open PySem PySem.Spec PyProof.Rows
section
variable {X : Cx} {ea C : Addr} {oe : Obj} {K : PySem.W.Frag}
/-- isinstance of the exception that is held: its class is known only when it comes -/
def rIsXC (K : PySem.W.Frag) (C ea : Addr) : List V → Hp → VK → Prop := fun xs H Q => ClsY K C ∧ rIsX K C ea xs H Q
theorem c_isXC (hp : (ea, oe) ∈ X.pn) (hc : oe.cls = .ref C) : CallR X (.builtin "isinstance") (rIsXC X.K C ea) := fun pins s σ H xs us Q I r h => c_isY h.1 hp hc pins s σ H xs us Q I r h.2
theorem c_isH (hc : oe.cls = .ref C) : CallR (X.heldX ea oe) (.builtin "isinstance") (rIsXC X.K C ea) := c_isXC List.mem_cons_self hc
theorem triedK {pins : List (Addr × Obj)} {EX : St → XK} : (X.tried pins EX).K = X.K := rfl
theorem heldXK : (X.heldX ea oe).K = X.K := rfl
theorem rd_isX1 {H : Hp} {Q : VK} {c : V} {b : Bool} (z : ClsY K C) (h1 : isCl c = true) (h2 : PySem.W.kitOne K (.ref C) (vcl c) = some b) (q : Q (.bl b) H) : rIsXC K C ea [.ref ea, c] H Q := ⟨z, c, b, rfl, .inl ⟨h1, h2⟩, q⟩
end
section
variable {σ : St} {H : Hp} {D : Ends} {E : XK} {C : Addr} {Q : VK}
instance e1 {t : TA} : RdS (tRaise E C t D σ H) (t σ H fun vs H1 => mkR E C vs H1) := ⟨id⟩
instance e2 {sp : Sp} {t : TA} {EX : St → XK} : RdS (tCallS sp [] EX t σ H Q) (t σ H fun vs H1 => sp vs H1 Q (EX σ)) := ⟨fun h => by
  unfold tCallS
  simpa only [List.append_nil] using h⟩
instance e3 {tb : (St → XK) → TS} {th : TH} : RdS (tTryN tb th D σ H) (tb (fun σ' cls dc H' => ∃ C, cls = .ref C ∧ ∀ ea, H' ea = none → th C ea dc D σ' H') D σ H) := ⟨id⟩
end
end L2
namespace L2
open PySem PySem.Spec PyProof.Rows
end L2

set_option Elab.async false
set_option linter.all false
set_option maxRecDepth 100000
set_option maxHeartbeats 4000000
namespace PySem
open Sem (wp)
/-! ### an own error class some steps under a built-in one, with its own __init__ -/
section
variable {prog : Program} {w : World} {A : Around} {E : Value → Shared → Prop} {h : Heap} {g : Array GenState} {d : Drawn} {t : Nat} {os : OsState}
variable {nm q : Str} {C N : Addr} {bs bm bmB : List Value} {hdct : Bool} {sn : List Str} {sub : List Value} {ab : Bool} {col : Option Bool} {dd : Option Addr} {k0 k1 k2 k3 k5 : Option Value} {B newId initId : String}
theorem exd_type_call (F : ExcBaseFacts B newId initId bmB) (T : OwnTail h bmB bm) {mN : Str → Option Value} {rest : List Value} {fI : Addr} {oI : Obj} {Q : Fin → Shared → Prop}
    (hC : h.get? C = some (excClassObj nm q C N bs bm hdct sn sub ab col dd k0 k1 k2 k3 k5 newId)) (hn : h.Ns N mN) (hi : mN "__init__" = some (.ref fI))
    (hfI : h.get? fI = some oI) (hfc : oI.cls = .type "function") (hz : rest.length ≤ sizeLine)
    (hq : ∀ h1 e, h.objs.size ≤ e → Heap.MadeExcOf h h1 e (.ref C) rest → wpAny (model prog w) A (call (.ref fI) (.ref e :: rest)) (fun r s' => r = .none ∧ Q (.done (.ret (.ref e))) s') E ⟨h1, g, d, t, os⟩) :
    wpAny (model prog w) A (Builtin.«type.__call__» ⟨.ref C :: rest, []⟩) Q E ⟨h, g, d, t, os⟩ := by
  repeat (first | with_reducible refine wpAny_loadPart_at hC ?_ | with_reducible refine wpAny_madeBy_exc hC ?_ | wp_step)
  refine codeAny_call_builtin_code (Code.quiet_builtin _ F.quiet) (wpAny_check_new_subT F T hC ?_)
  refine codeAny_exc_new_subT F T hC ?_ hz
  show wpAny _ _ _ _ _ _
  obtain ⟨oT, hoT⟩ : ∃ oT : Obj, oT = { cls := .type "tuple", data := .seq rest.toArray } := ⟨_, rfl⟩
  obtain ⟨oX, hoX⟩ : ∃ oX : Obj, oX = { cls := .ref C, data := .fields #[.ref h.objs.size, .none, .none, .none, .bool false, .none] } := ⟨_, rfl⟩
  rw [← hoT, ← hoX]
  have kp : ∀ b o, h.get? b = some o → ((h.push oT).push oX).get? b = some o := fun b o e => Heap.get?_push_of_some _ (Heap.get?_push_of_some _ e)
  have hC1 := kp _ _ hC
  have hf1 := kp _ _ hfI
  have hn1 : ((h.push oT).push oX).Ns N mN := let ⟨o, es, ep, e, r⟩ := hn; ⟨o, es, ep, kp _ _ e, r⟩
  have T1 := T.keeps kp
  have hg : ((h.push oT).push oX).get? (h.objs.size + 1) = some oX := by subst hoT hoX; heap_get
  have hX : oX.cls = .ref C := by rw [hoX]
  have hin : (Value.ref C :: bm).contains (.ref C) = true := by simp
  unfold isInstance
  repeat (first | (with_reducible refine wpAny_loadPart_at hg ?_; rw [hX]) | (with_reducible refine wpAny_isSubtype_exc hC1 ?_; rw [hin]) | wp_step)
  show wpAny _ _ (typeLookup (.ref C) _) _ _ _
  refine wpAny_typeLookup_tail hC1 hn1 T1 F.mroIs F.init.lookup ?_
  rw [hi]
  refine wpAny_holding (wpAny_bind ?_)
  unfold bindSpecial
  refine wpAny_bind (wpAny_typeOf (T := "function") ⟨_, hf1, hfc⟩ ?_)
  rw [if_pos (by decide)]
  have made : Heap.MadeExcOf h ((h.push oT).push oX) (h.objs.size + 1) (.ref C) rest := by
    subst hoT hoX
    exact ⟨kp, Heap.get?_none_of_le (Nat.le_succ _), h.objs.size, hg, Heap.get?_none_of_le (Nat.le_refl _), Heap.get?_push_of_some _ (Heap.get?_push_at rfl rfl)⟩
  refine wpAny_pure (wpAny_bind (wpAny_mono (hq _ _ (Nat.le_succ _) made) (fun r s' hr => ?_) fun _ _ z => z))
  obtain ⟨rfl, hQ⟩ := hr
  wp_walk
  exact hQ
theorem exd_call (F : ExcBaseFacts B newId initId bmB) (T : OwnTail h bmB bm) {mN : Str → Option Value} {rest : List Value} {fI : Addr} {oI : Obj} {Q : Value → Shared → Prop}
    (hC : h.get? C = some (excClassObj nm q C N bs bm hdct sn sub ab col dd k0 k1 k2 k3 k5 newId)) (hn : h.Ns N mN) (hi : mN "__init__" = some (.ref fI))
    (hfI : h.get? fI = some oI) (hfc : oI.cls = .type "function") (hz : rest.length ≤ sizeLine)
    (hq : ∀ h1 e, h.objs.size ≤ e → Heap.MadeExcOf h h1 e (.ref C) rest → wpAny (model prog w) (A.under (.builtin "type.__call__" ⟨.ref C :: rest, []⟩)) (call (.ref fI) (.ref e :: rest)) (fun r s' => r = .none ∧ Q (.ref e) s') E ⟨h1, g, d, t, os⟩) :
    wpAny (model prog w) A (call (.ref C) rest) Q E ⟨h, g, d, t, os⟩ := by
  have e1 := tc_lookup
  have e2 := tc_bind (.ref C)
  have ty : (⟨h, g, d, t, os⟩ : Shared).TypeIs (.ref C) "type" := ⟨_, hC, rfl⟩
  refine wpAny_call (codeAny_of_tree ?_)
  show wpAny _ _ (callAny (.ref C) _) _ _ _
  repeat (any_goals (first | assumption | with_reducible refine wpAny_loadPart_at hC ?_ | wp_step))
  refine ⟨rfl, ?_⟩
  refine codeAny_call_builtin_at (Code.quiet_builtin _ (by decide +kernel)) entry_typeCall (wpAny_check_type_call_sub hC ?_)
  exact exd_type_call F T hC hn hi hfI hfc hz fun h1 e hl hm => hq h1 e hl hm
end
section
variable {M : Model} {A : Around} {E : Value → Shared → Prop} {env : Env}
variable {nm q : Str} {C N : Addr} {bs bm : List Value} {hdct : Bool} {sn : List Str} {sub : List Value} {ab : Bool} {col : Option Bool} {dd : Option Addr} {k0 k1 k2 k3 k5 : Option Value} {newId : String}
theorem exd_raise {s : Shared} {x : Sem Value} {Q : Flow → Shared → Prop} (hbase : bm.contains (.type "BaseException") = true) (hh : A.handled = none)
    (h : wpAny M A x (fun v s1 => ∃ e oe t, v = .ref e ∧ s1.heap.get? C = some (excClassObj nm q C N bs bm hdct sn sub ab col dd k0 k1 k2 k3 k5 newId) ∧ s1.heap.get? e = some oe ∧ oe.cls = .ref C ∧ oe.data = .fields #[.ref t, .none, .none, .none, .bool false, .none] ∧ E (.ref e) s1) E s) :
    wpAny M A (raiseStmt env (some x) none) Q E s := by
  have hin : (Value.ref C :: bm).contains (.type "BaseException") = true := by rw [List.contains_cons, hbase, Bool.or_true]
  unfold raiseStmt
  refine wpAny_bind (wpAny_mono h (fun v s1 z => ?_) fun _ _ z => z)
  obtain ⟨e, oe, t, rfl, hC, he, hc, hd, hE⟩ := z
  obtain ⟨ocls, odict, odata, oslots⟩ := oe
  simp only at hc hd
  subst hc hd
  obtain ⟨hp, gs, dr, tk, os⟩ := s1
  repeat (first | with_reducible refine wpAny_loadPart_at he ?_ | with_reducible refine wpAny_loadPart_at hC ?_ | (with_reducible refine wpAny_isSubtype_exc hC ?_; rw [hin]) | wp_step)
  exact wpAny_raiseNew_none hh hE
end
end PySem

set_option Elab.async false
set_option linter.all false
set_option maxRecDepth 100000
set_option maxHeartbeats 4000000
namespace L2
open PySem PySem.Spec PySem.Calls PySem.W PyProof.Rows Builtin Builtin.ObjectAttr Builtin.Getset_descriptor
section
variable {P : Program} {w : World} {A : Around} {E : Value → Shared → Prop} {s : Shared} {K : PySem.W.Frag} {x C : Addr} {ox od : Obj} {name : Str} {v : Value}
/-- e.f of an exception of an own class that holds f in its own dict -/
theorem exc_get {expr : Bool} {Q : Value → Shared → Prop} (X : K.In s.heap) (I : InstAt s.heap x ox C (some od)) (hg1 : findIn K (.ref C) "__getattribute__" = some (some (.builtin "BaseException.__getattribute__"))) (hg2 : findIn K (.ref C) "__getattr__" = some none) (hb : mroIn K C (.type "BaseException") = some true)
    (hf : findObj K C (some od) name = some (.value v)) (hh : handedIn v = true) (h : Q v { s with toks := s.toks + 1 }) : wpAny (model P w) A (getAttr (.ref x) name expr) Q E s := by
  have I0 : OfCls s.heap x C := ⟨ox, I.at_, I.cls⟩
  have L0 := I.type (M := model P w)
  have L1 := looks_findIn (M := model P w) X hg1
  have L2 := looks_findIn (M := model P w) X hg2
  have L3 := looks_find (M := model P w) X I hf
  obtain ⟨hp, g, d, t, os⟩ := s
  unfold getAttr getAttrBy
  refine wpAny_bind (wpAny_mkText (wpAny_holding (wpAny_bind (L0.at (wpAny_bind (L1.at ?_))))))
  dsimp only
  rw [if_neg (by intro z; exact absurd (Bool.and_eq_true _ _ ▸ z : _ ∧ _).2 (by decide))]
  unfold getAttrByItsOwn hookBefore
  rw [if_pos (by rfl)]
  refine wpAny_bind (L2.at ?_)
  refine wpAny_bind (wpAny_attempt (wpAny_holding ?_))
  unfold callGetattribute
  rw [if_neg (by intro z; exact absurd (Bool.and_eq_true _ _ ▸ z : _ ∧ _).2 (by decide))]
  unfold boundAndCalled bindSpecial
  rw [type_bx]
  refine wpAny_bind (wpAny_bind (wpAny_pure ?_))
  rw [if_pos (by decide)]
  refine wpAny_pure ?_
  dsimp only [List.cons_append, List.nil_append]
  refine wpAny_call (codeAny_call_builtin plain_bx entry_bx (check_bx (K := K) I0 X hb ?_))
  unfold Builtin.«object.__getattribute__»
  refine wpAny_bind (show wpAny _ _ (pure (Value.ref x, [Value.str name t])) _ _ _ from wpAny_pure ?_)
  dsimp only
  refine wpAny_bind (show wpAny _ _ (pure name) _ _ _ from wpAny_pure ?_)
  refine wpAny_bind (L0.at (wpAny_bind (L3.at ?_)))
  dsimp only
  refine wpAny_pure ?_
  show wpAny _ _ (handedOut v) _ _ _
  rw [handedOut_of hh]
  exact wpAny_pure h
end
end L2

set_option Elab.async false
set_option linter.all false
set_option maxRecDepth 100000
set_option maxHeartbeats 4000000
namespace L2
open PySem PySem.Spec PySem.Calls PySem.W PyProof.Rows Builtin Builtin.ObjectAttr Builtin.Getset_descriptor
/-! ### x.f = v of an exception that has no dict yet -/
def excOver : List Value → Bool
  | .ref _ :: r => excOver r
  | l => l == veMro
theorem refuse_ve (self : Value) : refuseLoop self "__setattr__" veMro = pure () := by kernel_rfl
theorem refuse_exc (self : Value) : ∀ {l : List Value}, excOver l = true → refuseLoop self "__setattr__" l = pure ()
  | .ref c :: r, e => by rw [refuseLoop_ref]; exact refuse_exc self e
  | .type n :: r, e => by rw [show (Value.type n :: r) = veMro from eq_of_beq e]; exact refuse_ve self
  | [], e => by cases e
  | .none :: r, e => by rw [show (Value.none :: r) = veMro from eq_of_beq e]; exact refuse_ve self
  | .bool b :: r, e => by rw [show (Value.bool b :: r) = veMro from eq_of_beq e]; exact refuse_ve self
  | .builtin n :: r, e => by rw [show (Value.builtin n :: r) = veMro from eq_of_beq e]; exact refuse_ve self
  | .int n t :: r, e => by rw [show (Value.int n t :: r) = veMro from eq_of_beq e]; exact refuse_ve self
  | .str n t :: r, e => by rw [show (Value.str n t :: r) = veMro from eq_of_beq e]; exact refuse_ve self
section
variable {P : Program} {w : World} {A : Around} {E : Value → Shared → Prop} {s : Shared} {K : PySem.W.Frag} {x C : Addr} {ox : Obj} {name : Str} {v : Value}
theorem exc_set {cd : ClassData} {Q : Unit → Shared → Prop} (X : K.In s.heap) (I : InstAt s.heap x ox C none) (hnd : ox.dict = none) {vs : Array Value} (hvs : ox.data = .fields vs) (hcd : clsIn K C = some cd) (hov : excOver cd.mro = true) (hdc : cd.hasDict = true) (hm : mroIn K C (.type "object") = some true)
    (hs : findIn K (.ref C) "__setattr__" = some (some (.builtin "object.__setattr__"))) (ha : findIn K (.ref C) name = some none)
    (h : ∀ h1 dx, s.heap.get? dx = none → dx ≠ x → h1.get? x = some { ox with dict := some dx } → h1.Ns1 dx (fun y => if y = name then some v else none) → (∀ b o, s.heap.get? b = some o → b ≠ x → h1.get? b = some o) → Q () { s with heap := h1, toks := s.toks + 2 }) :
    wpAny (model P w) A (setAttr (.ref x) name v) Q E s := by
  have SF := PySem.F.store_object
  have sub : Looks (model P w) s.heap (isInstance (.ref x) (.type "object")) true := I.type.andThen (looks_mroIn X hm)
  have hmr : Looks (model P w) s.heap (mroOf (.ref C)) cd.mro := (looks_clsIn X hcd).andThen .now
  refine set_plain X I hs ?_
  refine codeAny_call_builtin SF.slot.plain SF.entry (@check_slot (model P w) _ _ { s with toks := s.toks + 1 } "object.__setattr__" "object" "__setattr__" (.ref x) [.str name s.toks, v] [] _ SF.kind SF.split sub (SF.args (.ref x) (.str name s.toks) v) ?_)
  rw [osa_eq, refuse_eq]
  refine wpAny_bind (wpAny_bind (I.type.here (s := { s with toks := s.toks + 1 }) (wpAny_bind (hmr.here (s := { s with toks := s.toks + 1 }) ?_))))
  rw [refuse_exc _ hov]
  refine wpAny_pure (wpAny_bind (I.type.here (s := { s with toks := s.toks + 1 }) (wpAny_bind ((looks_findIn X ha).here (s := { s with toks := s.toks + 1 }) (wpAny_bind (wpAny_pure ?_))))))
  show wpAny _ _ (storeInOwnDict (.ref x) (.ref C) (.str name s.toks) name v false) _ _ _
  unfold storeInOwnDict
  refine wpAny_bind (wpAny_pure (wpAny_bind ?_))
  obtain ⟨ocl, odi, oda, osl⟩ := ox
  have e1 : ocl = .ref C := I.cls
  have e2 : odi = none := hnd
  have e3 : oda = .fields vs := hvs
  subst e1 e2 e3
  unfold ownDictForStores instanceDict
  refine wpAny_bind (wpAny_loadPart (s := { s with toks := s.toks + 1 }) I.at_ ?_)
  dsimp only
  refine wpAny_bind (Looks.here (s := { s with toks := s.toks + 1 }) (looks_clsIn X hcd) ?_)
  rw [hdc]
  simp only [Bool.not_true, Bool.false_eq_true, if_false]
  rw [if_neg (show ¬ (false || !typeHasDict (Value.ref C)) = true from Bool.false_ne_true)]
  refine wpAny_bind (wpAny_alloc ?_)
  have g1 : (s.heap.push { cls := Value.type "dict", data := Data.dict #[] }).get? x = some { cls := Value.ref C, data := Data.fields vs, slots := osl } := Heap.get?_push_of_some _ I.at_
  have hne : s.heap.objs.size ≠ x := Nat.ne_of_gt (Heap.lt_size I.at_)
  refine wpAny_bind (wpAny_update (s := { s with heap := s.heap.push { cls := Value.type "dict", data := Data.dict #[] }, toks := s.toks + 1 }) g1 ?_)
  refine wpAny_pure ?_
  dsimp only
  have g2 := Heap.get?_update_self (h := s.heap.push { cls := Value.type "dict", data := Data.dict #[] }) (fun o : Obj => ({ cls := o.cls, dict := some s.heap.objs.size, data := o.data, slots := o.slots } : Obj)) g1 rfl
  have g3 : ((s.heap.push { cls := Value.type "dict", data := Data.dict #[] }).update x fun o : Obj => ({ cls := o.cls, dict := some s.heap.objs.size, data := o.data, slots := o.slots } : Obj)).get? s.heap.objs.size = some { cls := Value.type "dict", data := Data.dict #[] } := by
    rw [Heap.get?_update_other _ _ (Ne.symm hne)]
    exact Heap.get?_push_size _ rfl
  have g4 : ∀ b o, s.heap.get? b = some o → b ≠ x → ((s.heap.push { cls := Value.type "dict", data := Data.dict #[] }).update x fun o : Obj => ({ cls := o.cls, dict := some s.heap.objs.size, data := o.data, slots := o.slots } : Obj)).get? b = some o := fun b o q n => by
    rw [Heap.get?_update_other _ _ (Ne.symm n)]
    exact Heap.get?_push_of_some _ q
  generalize ((s.heap.push { cls := Value.type "dict", data := Data.dict #[] }).update x fun o : Obj => ({ cls := o.cls, dict := some s.heap.objs.size, data := o.data, slots := o.slots } : Obj)) = h2 at *
  have n1 : h2.Ns1 s.heap.objs.size fun _ => none := Heap.Ns1.of_empty ⟨_, _, _, g3, rfl, (fun e he => by simp at he), fun y => rfl⟩
  unfold storeInDict
  refine wpAny_bind (wpAny_pure (wpAny_bind ?_))
  refine wpAny_nsSet1 (s := { s with heap := h2, toks := s.toks + 1 }) n1 fun h3 m3 b3 => ?_
  obtain ⟨oD, esD, epD, hoD, hdD, hcD⟩ := m3.count (ns := [name]) (PySem.Within.cons name v PySem.Within.nil)
  refine wpAny_bind (wpAny_lookBehind hoD (by rw [hdD]; exact pastItsLine_dict (Nat.le_trans hcD (by rw [sizeLine_eq]; show 1 ≤ 16777216 + 1; decide))) ?_)
  refine wpAny_pure ?_
  exact h h3 s.heap.objs.size (Heap.get?_none_of_le (Nat.le_refl _)) hne ((b3.2 x (Ne.symm hne)).trans g2) m3 fun b o q n => (b3.2 b (fun z => by rw [z, Heap.get?_none_of_le (Nat.le_refl _)] at q; cases q)).trans (g4 b o q n)
end
end L2

set_option Elab.async false
set_option linter.all false
set_option maxRecDepth 100000
set_option maxHeartbeats 4000000
namespace L2
open PySem PySem.Spec PyProof.Rows
/-! ### an exception that is being made: tracked while its __init__ runs -/
def ExcO (C ea : Addr) (dc : Option Addr) (h : Heap) : Prop := ∃ t, h.get? ea = some { cls := .ref C, dict := dc, data := .fields #[.ref t, .none, .none, .none, .bool false, .none] }
theorem ExcO.ok {P : Program} {w : World} {H : Hp} {h : Heap} {C ea : Addr} {dc : Option Addr} (x : ExcO C ea dc h) : ObjOk P w H h ea (.ext (ExcO C ea dc)) :=
  ⟨x, let ⟨_, e⟩ := x; ⟨_, e⟩, fun _ _ y k => let ⟨t, e⟩ := y; ⟨t, k _ e⟩⟩
/-- what is known of an own error class with an __init__ of its own -/
def excInI (K : PySem.W.Frag) (C : Addr) (bmB : List Value) (newId : String) (f : Addr) : Bool := match K.lookup C with
  | some ⟨.type "type", _, .cls cd, sl⟩ => (match cd.mro, sl.toList with
    | .ref C' :: bm, [_, _, _, _, some (.builtin n), _] => C' == C && n == newId && !cd.hasDel && PySem.W.tailIn K bmB bm && PySem.W.nsOkIn K cd.ns && PySem.W.nsIn K cd.ns "__init__" == some (some (.ref f)) && PySem.W.isFn K (.ref f)
    | _, _ => false)
  | _ => false
structure ExI (K : PySem.W.Frag) (mg : Str → Option Value) (x : Str) (C f : Addr) : Prop where
  mgx : mg x = some (.ref C)
  ei : excInI K C veMro "ValueError.__new__" f = true
theorem Inv.forget {X : Cx} {pins : List (Addr × Obj)} {σ : St} {H : Hp} {s : Shared} {a : Addr} {φ : Heap → Prop} (I : Inv X pins σ H s) (e : H a = some (.ext φ)) : Inv X pins σ (fun b => if b = a then none else H b) s := by
  have hok : HOk X.prog X.w (fun b => if b = a then none else H b) s.heap := fun b o q => by
    by_cases z : b = a
    · have q2 : (if b = a then none else H b) = some o := q
      rw [if_pos z] at q2; cases q2
    · have q2 : (if b = a then none else H b) = some o := q
      have q' : H b = some o := by rw [if_neg z] at q2; exact q2
      refine (I.hok b o q').stay (fun c u _ r => r) (fun c r => ?_) fun c xs r => ?_
      · show (if c = a then none else H c) = _
        rw [if_neg (fun y => by rw [y, e] at r; cases r)]; exact r
      · show (if c = a then none else H c) = _
        rw [if_neg (fun y => by rw [y, e] at r; cases r)]; exact r
  refine I.un (h' := s.heap) (t' := s.toks) ⟨fun b o q _ _ _ => q, fun b o q _ _ _ => ⟨o.slots, q⟩, fun b o _ n _ => ?_, fun b o q _ => ⟨o, q⟩, fun b xs q => ?_, fun b o u q => ?_, fun b ps q => ⟨#[], ?_⟩⟩ hok
  · show (if b = a then none else H b) = none
    split
    · rfl
    · exact n
  · show (if b = a then none else H b) = _
    rw [if_neg (fun y => by rw [y, e] at q; cases q)]; exact q
  · show (if b = a then none else H b) = _
    rw [if_neg (fun y => by rw [y, e] at q; cases q)]; exact q
  · show (if b = a then none else H b) = _
    rw [if_neg (fun y => by rw [y, e] at q; cases q), q]; simp
theorem ns_val {K : PySem.W.Frag} {h : Heap} {N : Addr} {mg : Str → Option Value} {n : Str} {v : Value} (X : K.In h) (G : h.Ns N mg) (e : PySem.W.nsIn K N n = some (some v)) : mg n = some v := by
  obtain ⟨o, es, ep, ho, hd, _, hf⟩ := G
  unfold PySem.W.nsIn at e
  split at e
  · rename_i q
    have z := (X _ _ q).symm.trans ho
    cases z
    cases hd
    split at e
    · rename_i y he
      cases e
      rw [← hf]
      unfold nsFind findBy
      rw [← Array.find?_toList, he]
      rfl
    · split at e <;> cases e
  · cases e
section
variable {X : Cx} {x : Str} {C f : Addr} {fd : FuncData} {k : Nat} {ps : List Str} {sp : Sp} {E : XK} {e : Expr} {es : List Expr} {t : TA} {np cpos pos : Pos}
def tRaiseI (E : XK) (C : Addr) (sp : Sp) (t : TA) : TS := fun _ σ H => t σ H fun vs H1 => vs.length ≤ sizeLine ∧ ∀ ea, H1 ea = none → sp (.ref ea :: vs) (upd H1 ea (.ext (ExcO C ea none))) (fun v H2 => v = .non ∧ ∃ dc, H2 ea = some (.ext (ExcO C ea dc)) ∧ E (.ref C) dc (fun b => if b = ea then none else H2 b)) E0
/-- raise C(..), C with an __init__ of its own -/
theorem bs_raiseI (hT : Throws X E) (hc : X.calm = true) (c : ExI X.K X.mg x C f) (F : FnOk X.prog X.w X.K X.mg X.base CX0 k f fd ps sp) (hr : Room (k + 1) X.A) (hb : Binds X.K fd ps []) (ha : BA X (e :: es) t) (hg : Gl X x := by rfl) (hdb : (x == ("__debug__" : Str)) = false := by decide) (h1 : isStar e = false := by rfl) (h2 : noStar es = true := by rfl) :
    BS X (.Raise (some (.Call (.Name x np) (e :: es) [] cpos)) none pos) (tRaiseI E C sp t) := ⟨by
  intro pins s σ H D I h
  have q := c.ei
  unfold excInI at q
  split at q
  · rename_i dd cdt sl ho
    split at q
    · rename_i C' bm k0 k1 k2 k3 n k5 hm hs
      simp only [Bool.and_eq_true, beq_iff_eq, Bool.not_eq_true'] at q
      obtain ⟨⟨⟨⟨⟨⟨rfl, rfl⟩, hdel⟩, ht⟩, hok⟩, hni⟩, hfn⟩ := q
      obtain ⟨nm, bs, mro, ns, qn, hd, sn, sub, ab, col, del⟩ := cdt
      dsimp only at hm hdel hok hni
      subst hm hdel
      have hsl : sl = #[k0, k1, k2, k3, some (.builtin "ValueError.__new__"), k5] := by
        obtain ⟨l⟩ := sl
        simp only at hs
        rw [hs]
      subst hsl
      have hOT := PySem.W.tail_of_in I.kIn ht
      have hf := beq_iff_eq.mp hfn
      have hbase := hOT.hasType PySem.F.excBase_ValueError.hasBase
      rw [arm_exec_Raise]
      simp only [evalOpt, Option.map]
      refine wpAny_bind (wpAny_standAt (exd_raise (C := C') (nm := nm) (q := qn) (N := ns) (bs := bs) (bm := bm) (hdct := hd) (sn := sn) (sub := sub) (ab := ab) (col := col) (dd := dd) (k0 := k0) (k1 := k1) (k2 := k2) (k3 := k3) (k5 := k5) (newId := "ValueError.__new__") hbase (I.ok.hd hc) ?_))
      refine wpAny_bind (wpAny_mono (wpAny_Call_ofName (ld_glob I hg c.mgx ?_ hdb)) (fun v s3 h3 => wpAny_bind (wpAny_standAt (wpAny_pure h3))) fun _ _ z => z)
      unfold callWith
      have hA := ha.h cpos pins s σ H _ I h
      rw [star_cons h1] at hA ⊢
      refine wpAny_bind (wpAny_holding (Calls.evalArgs_plain (thn hA fun us s1 ⟨vs, H1, I1, rv, hz, hE⟩ => wpAny_bind (wpAny_standAt ?_))))
      have hplain : (backTo cpos ((false, eval e X.env) :: starEach es X.env)).any (·.1) = false := by
        show (false || (backTo cpos (starEach es X.env)).any (·.1)) = false
        rw [star_any h2]
        rfl
      simp only [hplain]
      have hC1 := I1.kIn _ _ ho
      obtain ⟨oI, hfo, hfc⟩ : ∃ oI : Obj, s1.heap.get? f = some oI ∧ oI.cls = .type "function" := by
        have hf2 : (X.K.lookup f).map (fun o => o.cls) = some (.type "function") := hf
        obtain ⟨oI, q1, q2⟩ := Option.map_eq_some_iff.mp hf2
        exact ⟨oI, I1.kIn _ _ q1, q2⟩
      have hns : s1.heap.Ns ns (s1.heap.nsMap ns) := .of_isNs (PySem.W.isNs_of_in I1.kIn hok)
      have hin := ns_val I1.kIn hns hni
      have hT1 := PySem.W.tail_of_in I1.kIn ht
      have hl1 : us.length ≤ sizeLine := by rw [← rv.length]; exact hz
      obtain ⟨hp, g, d, tk, os⟩ := s1
      refine wpAny_bind (wpAny_keeperOf_exc hC1 ?_)
      refine wpAny_bind (exd_call PySem.F.excBase_ValueError hT1 hC1 hns hin hfo hfc hl1 fun h3 ea hle hm => ?_)
      obtain ⟨t0, he3, _, _⟩ := hm.there
      have I2 : Inv X pins σ (upd H1 ea (.ext (ExcO C' ea none))) ⟨h3, g, d, tk, os⟩ := I1.laid (a := ea) (o := .ext (ExcO C' ea none)) (t' := tk) hm.keeps hle (ExcO.ok ⟨t0, he3⟩)
      have hsp := hE ea (I1.hok.fresh hle)
      have r2 : Vals (V.ref ea :: vs) (Value.ref ea :: us) := .cons rfl rv
      have hl : (Value.ref ea :: us ++ []).length = ps.length := by
        rw [List.append_nil, ← r2.length]
        exact F.len _ _ _ _ hsp
      have hbb := hb ⟨h3, g, d, tk, os⟩ (Value.ref ea :: us) I2.kIn hl
      rw [List.append_nil] at hbb
      refine wpAny_call (codeAny_mono (F.run _ X.stack _ _ ⟨Value.ref ea :: us, []⟩ (Value.ref ea :: us) _ _ E0 (hr.make C' us []) (I2.env0.make C' us []) hbb r2 hsp) fun r s' hq' => ?_)
      cases r with
      | error e' => exact False.elim hq'
      | ok fl =>
        cases fl with
        | ret u =>
          obtain ⟨v, H', I3, rv', ev, dc, q3, hE3⟩ := I2.after hq'
          subst ev
          refine ⟨rv', wpAny_bind (wpAny_holding (wpAny_point (wpAny_pure ?_)))⟩
          obtain ⟨⟨t1, he1⟩, _⟩ := I3.hok ea _ q3
          exact ⟨ea, _, t1, rfl, I3.kIn _ _ ho, he1, rfl, rfl, hT pins σ _ H1 s' _ ea _ (.ref t1) _ [.none, .none, .bool false, .none] dc (I3.forget q3) I1 hm.new he1 rfl rfl rfl (if_pos rfl) hE3⟩
        | next => exact False.elim hq'
        | brk => exact False.elim hq'
        | cont => exact False.elim hq'
    · cases q
  · cases q⟩
end
end L2

set_option Elab.async false
set_option linter.all false
set_option maxRecDepth 100000
set_option maxHeartbeats 4000000
namespace L2
open PySem PySem.Spec PyProof.Rows
/-- what storing a field of its own asks of an own error class -/
structure ExF (K : PySem.W.Frag) (C : Addr) (f : Str) : Prop where
  cd : ∃ cd, PySem.W.clsIn K C = some cd ∧ excOver cd.mro = true ∧ cd.hasDict = true
  hm : PySem.W.mroIn K C (.type "object") = some true
  hs : PySem.W.findIn K (.ref C) "__setattr__" = some (some (.builtin "object.__setattr__"))
  ha : PySem.W.findIn K (.ref C) f = some none
section
variable {X : Cx} {o value : Expr} {f : Str} {pos pos' : Pos} {ta tv : TE}
def sXfld (K : PySem.W.Frag) (ta tv : TE) (f : Str) : TS := fun D σ H => tv σ H fun y H1 => ta σ H1 fun x H2 => ∃ a C, x = .ref a ∧ H2 a = some (.ext (ExcO C a none)) ∧ ExF K C f ∧ ∀ dx, H2 dx = none → dx ≠ a → D.nx σ (upd (upd H2 dx (.xd [(f, y)])) a (.ext (ExcO C a (some dx))))
/-- self.f = value, of an exception that is being made -/
theorem bs_xfld (ha : BE X o ta) (hv : BE X value tv) (hs : swapsWith value (some (.Attribute o f pos')) pos.line X.env = pure false := by rfl) : BS X (.Assign [.Attribute o f pos'] value pos) (sXfld X.K ta tv f) := ⟨by
  intro pins s σ H D I h
  refine plainObj_wpAny_Assign_Attribute (thn (hv.h pins s σ H _ I h) fun u s1 ⟨y, H1, I1, ry, q⟩ => thn (ha.h pins s1 σ H1 _ I1 q) fun ov s2 ⟨x, H2, I2, rx, a, C, ex, ea, c, q2⟩ => ?_) hs
  subst ex
  obtain rfl : ov = Value.ref a := rx
  obtain ⟨⟨t, e0⟩, _⟩ := I2.hok a _ ea
  obtain ⟨cd, c1, c2, c3⟩ := c.cd
  refine exc_set (ox := { cls := .ref C, dict := none, data := .fields #[.ref t, .none, .none, .none, .bool false, .none] }) I2.kIn ⟨e0, rfl, rfl, trivial⟩ rfl rfl c1 c2 c3 c.hm c.hs c.ha fun h1 dx nd ne g1 g2 g3 => ?_
  have ndx : H2 dx = none := I2.hok.none_of nd
  have hok : HOk X.prog X.w (upd (upd H2 dx (.xd [(f, y)])) a (.ext (ExcO C a (some dx)))) h1 := fun b w' q => by
    by_cases z : b = a
    · subst z
      rw [upd_same] at q
      cases q
      exact ExcO.ok ⟨t, g1⟩
    · rw [upd_ne z] at q
      by_cases z2 : b = dx
      · subst z2
        rw [upd_same] at q
        cases q
        refine ⟨_, g2, fun y' => ?_⟩
        by_cases zy : y' = f
        · subst zy
          rw [if_pos rfl, show List.lookup y' [(y', y)] = some y from by simp [List.lookup]]
          exact ry
        · rw [if_neg zy, show List.lookup y' [(f, y)] = none from by
            show (match y' == f with | true => some y | false => none) = none
            rw [show (y' == f) = false from Bool.eq_false_iff.mpr fun zz => zy (eq_of_beq zz)]]
          trivial
      · rw [upd_ne z2] at q
        refine (I2.hok b w' q).stay (fun c' u' hc r => g3 c' u' r fun zz => ?_) (fun c' r => ?_) fun c' xs r => ?_
        · rcases hc with hc | hc
          · exact z (hc.symm.trans zz)
          · rw [zz, ea] at hc; cases hc
        · rw [upd_ne (fun zz => by rw [zz, ea] at r; cases r), upd_ne (fun zz => by rw [zz, ndx] at r; cases r)]; exact r
        · rw [upd_ne (fun zz => by rw [zz, ea] at r; cases r), upd_ne (fun zz => by rw [zz, ndx] at r; cases r)]; exact r
  have un : Un X.fs [] H2 (upd (upd H2 dx (.xd [(f, y)])) a (.ext (ExcO C a (some dx)))) s2.heap h1 := by
    have na : ∀ b, H2 b = none → b ≠ a := fun b n zz => by rw [zz, ea] at n; cases n
    have nx : ∀ b w', H2 b = some w' → b ≠ dx := fun b w' n zz => by rw [zz, ndx] at n; cases n
    refine ⟨fun b o' q n _ _ => g3 b o' q (na b n), fun b o' q n _ _ => ⟨o'.slots, g3 b o' q (na b n)⟩, fun b o' q n _ => ?_, fun b o' q _ => ?_, fun b xs q => ?_, fun b o' u' q => ?_, fun b ps q => ⟨#[], ?_⟩⟩
    · rw [upd_ne (na b n), upd_ne (fun zz => by rw [zz, nd] at q; cases q)]; exact n
    · by_cases z : b = a
      · exact ⟨_, by rw [z]; exact g1⟩
      · exact ⟨o', g3 b o' q z⟩
    · rw [upd_ne (fun zz => by rw [zz, ea] at q; cases q), upd_ne (nx b _ q)]; exact q
    · rw [upd_ne (fun zz => by rw [zz, ea] at q; cases q), upd_ne (nx b _ q)]; exact q
    · rw [upd_ne (fun zz => by rw [zz, ea] at q; cases q), upd_ne (nx b _ q), q]; simp
  exact ⟨σ, _, I2.un (h' := h1) (t' := s2.toks + 2) un hok, q2 dx ndx ne⟩⟩
end
/-- what reading a field of its own asks of an own error class -/
structure ExG (K : PySem.W.Frag) (C : Addr) (f : Str) : Prop where
  hg1 : PySem.W.findIn K (.ref C) "__getattribute__" = some (some (.builtin "BaseException.__getattribute__"))
  hg2 : PySem.W.findIn K (.ref C) "__getattr__" = some none
  hb : PySem.W.mroIn K C (.type "BaseException") = some true
  hd : PySem.W.hasDictIn K C = true
  ha : PySem.W.findIn K (.ref C) f = some none
section
variable {X : Cx} {e : Expr} {f : Str} {pos : Pos} {ta : TE} {ea C : Addr} {oe : Obj} {dc : Option Addr}
def tXfld (K : PySem.W.Frag) (C ea : Addr) (dc : Option Addr) (ta : TE) (f : Str) : TE := fun σ H Q => ta σ H fun x H1 => x = .ref ea ∧ ExG K C f ∧ ∃ dx fs v, dc = some dx ∧ H1 dx = some (.xd fs) ∧ fs.lookup f = some v ∧ Q v H1
/-- e.f of an exception that is held -/
theorem be_xfld (he : BE X e ta) (hp : (ea, oe) ∈ X.pn) (hc : oe.cls = .ref C) (hdc : oe.dict = dc) (hn : PySem.W.notCls oe = true) (hb : attributeBase e f X.env (eval e X.env) = eval e X.env := by rfl) : BE X (.Attribute e f pos) (tXfld X.K C ea dc ta f) := ⟨by
  intro pins s σ H Q I h
  refine attr_of hb (thn (he.h pins s σ H _ I h) fun u s1 ⟨x, H1, I1, rx, ex, g, dx, fs, v, e1, e2, l, q⟩ => ?_)
  subst ex
  obtain rfl : u = Value.ref ea := rx
  subst e1
  obtain ⟨mA, n1, r⟩ := (show ObjOk X.prog X.w H1 s1.heap dx (.xd fs) from I1.hok dx _ e2)
  obtain ⟨u, hu, ru⟩ := RelO.some_of (v := v) (o := mA f) (by rw [← l]; exact r f)
  obtain ⟨od, ho, hl⟩ := lookIn_ns n1
  have at_ := (I1.pin (ea, oe) (List.mem_append_left _ hp)).1
  refine exc_get (ox := oe) (od := od) I1.kIn ⟨at_, hc, hn, by rw [hdc]; exact ho⟩ g.hg1 g.hg2 g.hb (PySem.W.findObj_own g.hd g.ha rfl (by rw [hl, hu])) (handed_of ru) ⟨v, H1, I1.tok _, ru, q⟩⟩
/-- the same, the text's facts being named -/
theorem be_xfldK {K : PySem.W.Frag} (hK : X.K = K) (he : BE X e ta) (hp : (ea, oe) ∈ X.pn) (hc : oe.cls = .ref C) (hdc : oe.dict = dc) (hn : PySem.W.notCls oe = true) (hb : attributeBase e f X.env (eval e X.env) = eval e X.env := by rfl) : BE X (.Attribute e f pos) (tXfld K C ea dc ta f) := hK ▸ be_xfld he hp hc hdc hn hb
end
end L2

set_option Elab.async false
set_option linter.all false
set_option maxRecDepth 100000
set_option maxHeartbeats 4000000
namespace L2
open PySem PySem.Spec PyProof.Rows
/-- the class that is called upward: its __init__ is ValueError's -/
structure ExU (K : PySem.W.Frag) (mg : Str → Option Value) (x : Str) (B : Addr) : Prop where
  mgx : mg x = some (.ref B)
  rd : PySem.W.readsIn K B (.type "type") = true
  fc : PySem.W.findCls K (.ref B) (.type "type") "__init__" = some (.val (.builtin "ValueError.__init__"))
  ga : PySem.W.specialIn K (.ref B) "__getattribute__" = some (some (.builtin "type.__getattribute__"))
theorem exc_cls {K : PySem.W.Frag} {h : Heap} {C f : Addr} (X : K.In h) (q : excInI K C veMro "ValueError.__new__" f = true) :
    ∃ nm qn N bs bm hd sn sub ab col dd k0 k1 k2 k3 k5, h.get? C = some (excClassObj nm qn C N bs bm hd sn sub ab col dd k0 k1 k2 k3 k5 "ValueError.__new__") ∧ OwnTail h veMro bm := by
  unfold excInI at q
  split at q
  · rename_i dd cdt sl ho
    split at q
    · rename_i C' bm k0 k1 k2 k3 n k5 hm hs
      simp only [Bool.and_eq_true, beq_iff_eq, Bool.not_eq_true'] at q
      obtain ⟨⟨⟨⟨⟨⟨rfl, rfl⟩, hdel⟩, ht⟩, hok⟩, hni⟩, hfn⟩ := q
      obtain ⟨nm, bs, mro, ns, qn, hd, sn, sub, ab, col, del⟩ := cdt
      dsimp only at hm hdel hok hni
      subst hm hdel
      have hsl : sl = #[k0, k1, k2, k3, some (.builtin "ValueError.__new__"), k5] := by
        obtain ⟨l⟩ := sl
        simp only at hs
        rw [hs]
      subst hsl
      exact ⟨nm, qn, ns, bs, bm, hd, sn, sub, ab, col, dd, k0, k1, k2, k3, k5, X _ _ ho, PySem.W.tail_of_in X ht⟩
    · cases q
  · cases q
section
variable {X : Cx} {x : Str} {B : Addr} {e : Expr} {es : List Expr} {t : TA} {np apos cpos : Pos}
def tUp (K : PySem.W.Frag) (t : TA) : TE := fun σ H Q => t σ H fun vs H1 => ∃ ea C dc v f, vs = [.ref ea, v] ∧ H1 ea = some (.ext (ExcO C ea dc)) ∧ excInI K C veMro "ValueError.__new__" f = true ∧ Q .non H1
/-- B.__init__(self, v), B an own error class without an __init__ of its own -/
theorem be_up {pl : Sem Bool} (c : ExU X.K X.mg x B) (ha : BA X (e :: es) t) (hg : Gl X x := by rfl) (hdb : (x == ("__debug__" : Str)) = false := by decide) (h1 : isStar e = false := by rfl) (h2 : noStar es = true := by rfl)
    (ht : eval (.Call (.Attribute (.Name x np) "__init__" apos) (e :: es) [] cpos) X.env = (do
      let ov ← eval (.Name x np) X.env
      standAt apos.atName
      let (f, first) ← holding [ov] (getMethod ov "__init__" pl)
      callWith cpos f first (backTo cpos (starEach (e :: es) X.env)) (backToKw cpos (keywordEach [] X.env))) := by rfl) :
    BE X (.Call (.Attribute (.Name x np) "__init__" apos) (e :: es) [] cpos) (tUp X.K t) := ⟨by
  intro pins s σ H Q I h
  refine PySem.W.methodCall_KW (pl := pl) (ld_glob I hg c.mgx ?_ hdb) ht
  refine PySem.W.method_cls I.kIn c.ga (PySem.W.cls_value I.kIn c.rd c.fc rfl ?_)
  refine PyProof.Rows.callWith_builtin1 (thn (ha.h cpos pins _ σ H _ (I.tok _) h) fun us s1 ⟨vs, H1, I1, rv, ea, C, dc, v, f, e1, e2, e3, q⟩ => ?_) (star_cons h1) (star_any h2)
  subst e1
  obtain ⟨w1, u, rfl, r1, r2⟩ := vals2 rv
  obtain rfl : w1 = Value.ref ea := r1
  obtain ⟨⟨t0, he⟩, _⟩ := I1.hok ea _ e2
  obtain ⟨nm, qn, N, bs, bm, hd, sn, sub, ab, col, dd, k0, k1, k2, k3, k5, hC, hT⟩ := exc_cls I1.kIn e3
  have F := PySem.F.excBase_ValueError
  obtain ⟨hp, g, d, tk, os⟩ := s1
  refine wpAny_call (codeAny_call_builtin F.init.plain F.initEntry (wpAny_check_init_subT F hT hC he rfl ?_))
  wp_walk
  show EP X pins σ Q .none ⟨(hp.push { cls := Value.type "tuple", data := Data.seq #[u] }).update ea (Obj.mapFields fun x => x.setIfInBounds 0 (Value.ref hp.objs.size)), g, d, tk, os⟩
  have g1 : (hp.push { cls := Value.type "tuple", data := Data.seq #[u] }).get? ea = some { cls := Value.ref C, dict := dc, data := Data.fields #[Value.ref t0, Value.none, Value.none, Value.none, Value.bool false, Value.none] } := Heap.get?_push_of_some _ he
  have g2 := Heap.get?_update_self (Obj.mapFields fun x => x.setIfInBounds 0 (Value.ref hp.objs.size)) g1 rfl
  have ux : upd H1 ea (.ext (ExcO C ea dc)) = H1 := funext fun b => by
    by_cases z : b = ea
    · subst z; rw [upd_same, e2]
    · rw [upd_ne z]
  have W := I1.write (x := ea) (e := ea) (o := .ext (ExcO C ea dc)) (t' := tk) (h' := (hp.push { cls := Value.type "tuple", data := Data.seq #[u] }).update ea (Obj.mapFields fun x => x.setIfInBounds 0 (Value.ref hp.objs.size))) (by rw [e2]; trivial) (.inl rfl)
    (fun b w' n q' => by rw [Heap.get?_update_other _ _ (Ne.symm n)]; exact Heap.get?_push_of_some _ q') ⟨_, g2⟩ (ExcO.ok ⟨hp.objs.size, g2⟩)
  rw [ux] at W
  exact ⟨.non, H1, W, rfl, q⟩⟩
end
end L2

set_option Elab.async false
set_option linter.all false
set_option maxRecDepth 100000
set_option maxHeartbeats 4000000
namespace L2
open PySem PySem.Spec PyProof.Rows
/-! ### the readings of exceptions with fields, step by step; what is asked of their classes, as rows that the text decides -/
section
variable {K : PySem.W.Frag} {σ : St} {H : Hp} {D : Ends} {E : XK} {C ea : Addr} {dc : Option Addr} {Q : VK} {t : TA} {ta tv : TE} {f : Str} {sp : Sp}
instance x1 : RdS (tUp K t σ H Q) (t σ H fun vs H1 => ∃ ea C dc v f, vs = [.ref ea, v] ∧ H1 ea = some (.ext (ExcO C ea dc)) ∧ excInI K C veMro "ValueError.__new__" f = true ∧ Q .non H1) := ⟨id⟩
instance x2 : RdS (sXfld K ta tv f D σ H) (tv σ H fun y H1 => ta σ H1 fun x H2 => ∃ a C, x = .ref a ∧ H2 a = some (.ext (ExcO C a none)) ∧ ExF K C f ∧ ∀ dx, H2 dx = none → dx ≠ a → D.nx σ (upd (upd H2 dx (.xd [(f, y)])) a (.ext (ExcO C a (some dx))))) := ⟨id⟩
instance x3 : RdS (tXfld K C ea dc ta f σ H Q) (ta σ H fun x H1 => x = .ref ea ∧ ExG K C f ∧ ∃ dx fs v, dc = some dx ∧ H1 dx = some (.xd fs) ∧ fs.lookup f = some v ∧ Q v H1) := ⟨id⟩
instance x4 : RdS (tRaiseI E C sp t D σ H) (t σ H fun vs H1 => vs.length ≤ sizeLine ∧ ∀ ea, H1 ea = none → sp (.ref ea :: vs) (upd H1 ea (.ext (ExcO C ea none))) (fun v H2 => v = .non ∧ ∃ dc, H2 ea = some (.ext (ExcO C ea dc)) ∧ E (.ref C) dc (fun b => if b = ea then none else H2 b)) E0) := ⟨id⟩
end
def excFd (K : PySem.W.Frag) (C : Addr) : Bool := (PySem.W.clsIn K C).any fun cd => excOver cd.mro && cd.hasDict
theorem exF_of {K : PySem.W.Frag} {C : Addr} {f : Str} (h : excFd K C = true) (hm : PySem.W.mroIn K C (.type "object") = some true) (hs : PySem.W.findIn K (.ref C) "__setattr__" = some (some (.builtin "object.__setattr__"))) (ha : PySem.W.findIn K (.ref C) f = some none) : ExF K C f := by
  refine ⟨?_, hm, hs, ha⟩
  unfold excFd at h
  cases e : PySem.W.clsIn K C with
  | none => rw [e] at h; cases h
  | some cd =>
    rw [e] at h
    have h' : (excOver cd.mro && cd.hasDict) = true := h
    rw [Bool.and_eq_true] at h'
    exact ⟨cd, rfl, h'.1, h'.2⟩
/-- what the __init__ of an error class with one field promises -/
def spInit (C : Addr) (f : Str) : Sp := fun vs H Q _ => ∃ ea v, vs = [.ref ea, v] ∧ H ea = some (.ext (ExcO C ea none)) ∧ ∀ dx, H dx = none → dx ≠ ea → Q .non (upd (upd H dx (.xd [(f, v)])) ea (.ext (ExcO C ea (some dx))))
/-- raise C(v): what is thrown has a dict of its own, with the field -/
theorem rd_raiseI {H : Hp} {E : XK} {C : Addr} {f : Str} {v : V} (h : ∀ dx H', Same H H' → H dx = none → H' dx = some (.xd [(f, v)]) → E (.ref C) (some dx) H') :
    [v].length ≤ sizeLine ∧ ∀ ea, H ea = none → spInit C f (.ref ea :: [v]) (upd H ea (.ext (ExcO C ea none))) (fun v H2 => v = .non ∧ ∃ dc, H2 ea = some (.ext (ExcO C ea dc)) ∧ E (.ref C) dc (fun b => if b = ea then none else H2 b)) E0 := by
  refine ⟨by show 1 ≤ sizeLine; rw [sizeLine_eq]; decide, fun ea n => ⟨ea, v, rfl, upd_same, fun dx n1 n2 => ⟨rfl, some dx, upd_same, ?_⟩⟩⟩
  have nd : H dx = none := by rw [upd_ne n2] at n1; exact n1
  refine h dx _ (fun b o e => ?_) nd ?_
  · have b1 : b ≠ ea := fun z => by rw [z, n] at e; cases e
    have b2 : b ≠ dx := fun z => by rw [z, nd] at e; cases e
    show (if b = ea then none else upd (upd (upd H ea (.ext (ExcO C ea none))) dx (.xd [(f, v)])) ea (.ext (ExcO C ea (some dx))) b) = some o
    rw [if_neg b1, upd_ne b1, upd_ne b2, upd_ne b1]
    exact e
  · show (if dx = ea then none else upd (upd (upd H ea (.ext (ExcO C ea none))) dx (.xd [(f, v)])) ea (.ext (ExcO C ea (some dx))) dx) = _
    rw [if_neg n2, upd_ne n2, upd_same]
end L2

set_option Elab.async false
set_option linter.all false
set_option maxRecDepth 100000
set_option maxHeartbeats 4000000
namespace L2
open PySem PySem.Spec PyProof.Rows
section
variable {X : Cx} {K : PySem.W.Frag} {σ : St} {H : Hp} {Q : VK} {o e : Expr} {es : List Expr} {to te : TE} {t : TA} {apos cpos pos p2 : Pos}
/-! ### text.upper(), of which the length alone is kept -/
def rUpper : V → List V → Hp → VK → Prop := fun x vs H Q => ∃ z : Str, x = .str z ∧ vs = [] ∧ (∀ c ∈ z.cps.toList, c < 128) ∧ z.length ≤ 100000 ∧ ∀ y : Str, y.length = z.length → Q (.str y) H
end
end L2

set_option Elab.async false
set_option linter.all false
set_option maxRecDepth 100000
set_option maxHeartbeats 4000000
namespace L2
open PySem PySem.Spec PyProof.Rows
/-! ### cuts of texts at any places -/
theorem clip_nat (k n : Nat) : max (0 : Int) (min (if (k : Int) < 0 then (k : Int) + (n : Int) else (k : Int)) (n : Int)) = ((min k n : Nat) : Int) := by rw [if_neg (by omega)]; omega
theorem idx_clip (i j n : Nat) : Builtin.Str.strSliceIndices (some (i : Int)) (some (j : Int)) 1 n = Builtin.Str.strSliceIndices (some ((min i n : Nat) : Int)) (some ((min j n : Nat) : Int)) 1 n := by
  show sliceRange (max (0 : Int) (min (if (i : Int) < 0 then (i : Int) + (n : Int) else (i : Int)) (n : Int))) (max (0 : Int) (min (if (j : Int) < 0 then (j : Int) + (n : Int) else (j : Int)) (n : Int))) 1
    = sliceRange (max (0 : Int) (min (if ((min i n : Nat) : Int) < 0 then ((min i n : Nat) : Int) + (n : Int) else ((min i n : Nat) : Int)) (n : Int))) (max (0 : Int) (min (if ((min j n : Nat) : Int) < 0 then ((min j n : Nat) : Int) + (n : Int) else ((min j n : Nat) : Int)) (n : Int))) 1
  rw [clip_nat, clip_nat, clip_nat, clip_nat, Nat.min_assoc, Nat.min_assoc, Nat.min_self]
theorem slice_all {z : Str} {i j : Nat} (h : i ≤ j) : (Txt.slice z (some (i : Int)) (some (j : Int))).cps.toList = (z.cps.toList.drop i).take (j - i) := by
  have e : Txt.slice z (some (i : Int)) (some (j : Int)) = Txt.slice z (some ((min i z.length : Nat) : Int)) (some ((min j z.length : Nat) : Int)) := by
    unfold Txt.slice
    rw [idx_clip]
  rw [e, slice_cut (by omega) (by omega), len_list]
  by_cases c : i ≤ z.cps.toList.length
  · rw [Nat.min_eq_left c]
    by_cases d : j ≤ z.cps.toList.length
    · rw [Nat.min_eq_left d]
    · rw [Nat.min_eq_right (by omega), List.take_of_length_le (by rw [List.length_drop]; omega), List.take_of_length_le (by rw [List.length_drop]; omega)]
  · rw [List.drop_eq_nil_of_le (show z.cps.toList.length ≤ i by omega), List.drop_eq_nil_of_le (show z.cps.toList.length ≤ min i z.cps.toList.length by omega), List.take_nil, List.take_nil]
theorem slice_allT (z : Str) (j : Nat) : (Txt.slice z none (some (j : Int))).cps.toList = z.cps.toList.take j := by
  have e : Txt.slice z none (some (j : Int)) = Txt.slice z (some ((0 : Nat) : Int)) (some (j : Int)) := by
    unfold Txt.slice
    rw [show Builtin.Str.strSliceIndices none (some (j : Int)) 1 z.length = Builtin.Str.strSliceIndices (some ((0 : Nat) : Int)) (some (j : Int)) 1 z.length from by
      show sliceRange 0 _ 1 = sliceRange (max (0 : Int) (min (if ((0 : Nat) : Int) < 0 then ((0 : Nat) : Int) + (z.length : Int) else ((0 : Nat) : Int)) (z.length : Int))) _ 1
      rw [clip_nat, Nat.zero_min]
      rfl]
  rw [e, slice_all (Nat.zero_le j), List.drop_zero, Nat.sub_zero]
theorem two {xs : List Nat} (h : xs.length = 2) : ∃ a b, xs = [a, b] := by
  match xs, h with
  | [a, b], _ => exact ⟨a, b, rfl⟩
end L2

set_option Elab.async false
set_option linter.all false
set_option maxRecDepth 100000
set_option maxHeartbeats 4000000
namespace L2
open PySem PySem.Spec PyProof.Rows
section
variable {X : Cx} {K : PySem.W.Frag} {σ : St} {H : Hp} {Q : VK}
/-! ### min of a list of whole numbers -/
def rMinL (K : PySem.W.Frag) : List V → Hp → VK → Prop := fun xs H Q => ∃ (p : Addr) (ns : List Int), xs = [.ref p] ∧ SqL K H p (ns.map V.int) ∧ 0 < ns.length ∧ ∀ M, M ∈ ns → (∀ a ∈ ns, M ≤ a) → Q (.int M) H
/-! ### None in a list of plain data -/
def isNo : D → Bool
  | .non => true
  | _ => false
def eN : Value → Bool
  | .none => true
  | _ => false
def rInN (K : PySem.W.Frag) : R2 := fun x y H Q => ∃ (p : Addr) (xs : List V) (ds : List D), x = .non ∧ y = .ref p ∧ SqL K H p xs ∧ Reps H ds xs ∧ D.deps ds ≤ 90 ∧ Q (.bl (ds.any isNo)) H
end
end L2

set_option Elab.async false
set_option linter.all false
set_option maxRecDepth 100000
set_option maxHeartbeats 4000000
namespace L2
open PySem PySem.Spec PyProof.Rows
/-! ### instances of own classes: fields, methods, making -/
section
variable {X : Cx} {CX : CXT} {k : Nat} {f C : Addr} {fd : FuncData} {ps : List Str} {sp : Sp} {dvs : List V} {ds : List Value} {E : XK} {EX : St → XK} {x m fl : Str} {p pos apos pos' : Pos} {e o value : Expr} {es : List Expr} {ta tv : TE} {t : TA} {pl : Sem Bool}
theorem be_fld (he : BE X e ta) (hb : attributeBase e fl X.env (eval e X.env) = eval e X.env := by rfl) : BE X (.Attribute e fl pos) (tFld X.K ta fl) := ⟨pe_fld he.h hb⟩
theorem bs_fld (ha : BE X o ta) (hv : BE X value tv) (hs : swapsWith value (some (.Attribute o fl pos')) pos.line X.env = pure false := by rfl) : BS X (.Assign [.Attribute o fl pos'] value pos) (sFld X.K ta tv fl) := ⟨ps_fld ha.h hv.h hs⟩
theorem b_m (c : Cls X.K C) (hm : Meth X.K C m f) (F : FnOk X.prog X.w X.K X.mg X.base CX k f fd ps sp) (hx : Passes CX X E) (hb : Binds X.K fd ps ds) (hd : Vals dvs ds) (hr : Room k X.A) (ho : BE X o ta) (ha : BA X (e :: es) t)
    (ht : eval (.Call (.Attribute o m apos) (e :: es) [] pos) X.env = (do
      let ov ← eval o X.env
      standAt apos.atName
      let (f, first) ← holding [ov] (getMethod ov m pl)
      callWith pos f first (backTo pos (starEach (e :: es) X.env)) (backToKw pos (keywordEach [] X.env))) := by rfl) (h1 : isStar e = false := by rfl) (h2 : noStar es = true := by rfl) :
    BE X (.Call (.Attribute o m apos) (e :: es) [] pos) (tMeth C m sp dvs E ta t) := ⟨pe_meth ho.h c hm F hr hb hd hx ha.h (star_cons h1) (star_any h2) ht⟩
theorem b_m0 (c : Cls X.K C) (hm : Meth X.K C m f) (F : FnOk X.prog X.w X.K X.mg X.base CX k f fd ps sp) (hx : Passes CX X E) (hb : Binds X.K fd ps ds) (hd : Vals dvs ds) (hr : Room k X.A) (ho : BE X o ta)
    (ht : eval (.Call (.Attribute o m apos) [] [] pos) X.env = (do
      let ov ← eval o X.env
      standAt apos.atName
      let (f, first) ← holding [ov] (getMethod ov m pl)
      callWith pos f first (backTo pos (starEach [] X.env)) (backToKw pos (keywordEach [] X.env))) := by rfl) :
    BE X (.Call (.Attribute o m apos) [] [] pos) (tMeth C m sp dvs E ta tNil) := ⟨pe_meth0 ho.h c hm F hr hb hd hx ht⟩
/-- o.m(e, ..) whose exceptions are wanted at the state where they come -/
def tMethS (C : Addr) (m : Str) (sp : Sp) (dvs : List V) (EX : St → XK) (ta : TE) (t : TA) : TE := fun σ H Q => ta σ H fun x H1 => ∃ a dx fs, x = .ref a ∧ H1 a = some (.ins C dx fs) ∧ fs.lookup m = none ∧ t σ H1 fun vs H2 => sp (x :: (vs ++ dvs)) H2 Q (EX σ)
theorem b_mS (hx : PassesS CX X EX) (c : Cls X.K C) (hm : Meth X.K C m f) (F : FnOk X.prog X.w X.K X.mg X.base CX k f fd ps sp) (hb : Binds X.K fd ps ds) (hd : Vals dvs ds) (hr : Room k X.A) (ho : BE X o ta) (ha : BA X (e :: es) t)
    (ht : eval (.Call (.Attribute o m apos) (e :: es) [] pos) X.env = (do
      let ov ← eval o X.env
      standAt apos.atName
      let (f, first) ← holding [ov] (getMethod ov m pl)
      callWith pos f first (backTo pos (starEach (e :: es) X.env)) (backToKw pos (keywordEach [] X.env))) := by rfl) (h1 : isStar e = false := by rfl) (h2 : noStar es = true := by rfl) :
    BE X (.Call (.Attribute o m apos) (e :: es) [] pos) (tMethS C m sp dvs EX ta t) := ⟨by
  intro pins s σ H Q I h
  refine PySem.W.methodCall_KW (pl := pl) (thn (ho.h pins s σ H _ I h) fun u s1 ⟨x, H1, I1, rx, a, dx, fs, ex, ea, l, q⟩ => ?_) ht
  subst ex
  obtain rfl : u = Value.ref a := rx
  refine getmeth_ok I1 ea c hm l ?_
  refine PySem.W.callWith_K (first := [.ref a]) (h₀ := X.base) I.ok.mod.kin hm.kp (thn (ha.h pos pins s1 σ H1 _ I1 q) fun us s2 ⟨vs, H2, I2, r, q2⟩ => ⟨I2.kIn, ?_⟩) (star_cons h1) (star_any h2)
  exact run_fnS (us := .ref a :: us) (vs := .ref a :: vs) F hr hb hd hx I2 (.cons rfl r) q2⟩
theorem b_mk (M : Mk X.K C f) (F : FnOk X.prog X.w X.K X.mg X.base CX k f fd ps sp) (hx : Passes CX X E) (hb : Binds X.K fd ps ds) (hd : Vals dvs ds) (hr : Room (k + 1) X.A) (hm : X.mg x = some (.ref C)) (ha : BA X (e :: es) t)
    (hg : Gl X x := by rfl) (hdb : (x == ("__debug__" : Str)) = false := by decide) (h1 : isStar e = false := by rfl) (h2 : noStar es = true := by rfl) : BE X (.Call (.Name x p) (e :: es) [] pos) (tMake C sp dvs E t) := ⟨pe_make M F hr hg hm hb hd hx ha.h hdb (star_cons h1) (star_any h2)⟩
theorem b_mk0 (M : Mk X.K C f) (F : FnOk X.prog X.w X.K X.mg X.base CX k f fd ps sp) (hx : Passes CX X E) (hb : Binds X.K fd ps ds) (hd : Vals dvs ds) (hr : Room (k + 1) X.A) (hm : X.mg x = some (.ref C))
    (hg : Gl X x := by rfl) (hdb : (x == ("__debug__" : Str)) = false := by decide) : BE X (.Call (.Name x p) [] [] pos) (tMake C sp dvs E tNil) := ⟨pe_make0 M F hr hg hm hb hd hx hdb⟩
end
/-! ### a def with defaults -/
structure FunD (K : PySem.W.Frag) (x qual : Str) (st : Stmt) (dV : Value) (f : Addr) (fd : FuncData) : Prop where
  ex : ∃ oc od kV doc pm an cdv ct osl, fd = PySem.W.fnOf x qual (defArgs st) (defBody st) (defScope st) dV kV doc pm an cdv ct ∧ K.lookup f = some { cls := oc, dict := od, data := .func fd, slots := osl } ∧ PySem.W.codeIn K cdv qual = true
  kp : PySem.W.keepIn K (.ref f) = true
section
variable {P : Program} {w : World} {K : PySem.W.Frag} {mg : Str → Option Value} {base : Heap}
theorem FunD.okB {x qual : Str} {st : Stmt} {dV : Value} {f : Addr} {fd : FuncData} {N ps : List Str} {k : Nat} {sp : Sp} (F : FunD K x qual st dV f fd) (S : FnScope N ps (defScope st)) (len : ∀ vs H Q E, sp vs H Q E → vs.length = ps.length)
    (hbody : ∀ (cdv : Value) (A : Around) (outer : List Env) (s : Shared) (H : Hp) (vs : List V) (Q : VK) (E : XK), Room k (A.deeper (envOfC qual (defScope st) s.heap.objs.size f cdv)) → sp vs H Q E →
      ∃ t, BSs (cxOf CX0 P w K mg base N qual (defScope st) f cdv A outer s H E) (defBody st) t ∧ t { nx := fun _ H' => Q .non H', rt := Q } (start N vs) H) : FnOk P w K mg base CX0 (k + 1) f fd ps sp := by
  obtain ⟨oc, od, kV, doc, pm, an, cdv, ct, osl, rfl, lk, hcd⟩ := F.ex
  refine fn_of lk hcd S len fun A outer s H vs Q E hr hsp => ?_
  obtain ⟨t, h, q⟩ := hbody cdv A outer s H vs Q E hr hsp
  exact ⟨t, h.h, q⟩
theorem FunD.okE {x qual : Str} {st : Stmt} {dV : Value} {f : Addr} {fd : FuncData} {N ps : List Str} {k : Nat} {sp : Sp} (F : FunD K x qual st dV f fd) (S : FnScope N ps (defScope st)) (len : ∀ vs H Q E, sp vs H Q E → vs.length = ps.length)
    (hbody : ∀ (cdv : Value) (A : Around) (outer : List Env) (s : Shared) (H : Hp) (vs : List V) (Q : VK) (E : XK), Room k (A.deeper (envOfC qual (defScope st) s.heap.objs.size f cdv)) → sp vs H Q E →
      ∃ t, BSs (cxOf (CXE P w) P w K mg base N qual (defScope st) f cdv A outer s H E) (defBody st) t ∧ t { nx := fun _ H' => Q .non H', rt := Q } (start N vs) H) : FnOk P w K mg base (CXE P w) (k + 1) f fd ps sp := by
  obtain ⟨oc, od, kV, doc, pm, an, cdv, ct, osl, rfl, lk, hcd⟩ := F.ex
  refine fn_of lk hcd S len fun A outer s H vs Q E hr hsp => ?_
  obtain ⟨t, h, q⟩ := hbody cdv A outer s H vs Q E hr hsp
  exact ⟨t, h.h, q⟩
theorem binds_len {us ds : List Value} {ps : List Str} {n : Nat} (h : (us ++ ds).length = ps.length) (hd : ds.length + n = ps.length) : us.length = n := by
  rw [List.length_append] at h
  omega
/-- how the arguments bind when the last ones are left to the defaults -/
def HasB (K : PySem.W.Frag) (fd : FuncData) (ps : List Str) (dvs : List V) : Prop := ∃ ds, Vals dvs ds ∧ Binds K fd ps ds
end
/-! ### dicts -/
section
variable {X : Cx} {K : PySem.W.Frag} {σ : St} {H : Hp} {Q : VK} {o e i f value : Expr} {td ty tx tv : TE} {pos pos' apos cpos : Pos}
theorem b_dnewK : BE X (.Dict [] [] pos) tDNewK := ⟨pe_dnewK⟩
theorem bs_dput (hu : X.A.units + 1 < cLine) (ho : BE X o td) (hi : BE X i ty) (hv : BE X value tv) (hs : swapsWith value (some (.Subscript o i pos')) pos.line X.env = pure false := by rfl) : BS X (.Assign [.Subscript o i pos'] value pos) (sDPut td ty tv) := ⟨ps_dput hu ho.h hi.h hv.h hs⟩
theorem bm_dget2 (hu : X.A.units + 1 < cLine) (ho : BE X o td) (he : BE X e ty) (hf : BE X f tx) (hbase : attributeBase o "get" X.env (eval o X.env) = eval o X.env := by rfl)
    (hfew : ((backTo cpos (starEach [e, f] X.env)).all (fun x => !x.1) && (backToKw cpos (keywordEach [] X.env)).all (fun x => x.1.isSome) && decide ([e, f].length + ([] : List Keyword).length + (if ([] : List Keyword).isEmpty then 0 else 1) < 30)) = true := by rfl)
    (hline : (apos.endLine == cpos.line) = true := by rfl) (htr : backTo cpos (starEach [e, f] X.env) = [(false, eval e X.env), (false, eval f X.env)] := by rfl) : BE X (.Call (.Attribute o "get" apos) [e, f] [] cpos) (tDGet2 td ty tx) := ⟨pe_dget2 hu ho.h he.h hf.h ⟨hbase, hfew, hline, htr⟩⟩
theorem bm_dpop1 (ho : BE X o td) (he : BE X e ty) (hbase : attributeBase o "pop" X.env (eval o X.env) = eval o X.env := by rfl)
    (hfew : ((backTo cpos (starEach [e] X.env)).all (fun x => !x.1) && (backToKw cpos (keywordEach [] X.env)).all (fun x => x.1.isSome) && decide ([e].length + ([] : List Keyword).length + (if ([] : List Keyword).isEmpty then 0 else 1) < 30)) = true := by rfl)
    (hline : (apos.endLine == cpos.line) = true := by rfl) (htr : backTo cpos (starEach [e] X.env) = [(false, eval e X.env)] := by rfl) : BE X (.Call (.Attribute o "pop" apos) [e] [] cpos) (tDPop1 td ty) := ⟨pe_dpop1 ho.h he.h ⟨hbase, hfew, hline, htr⟩⟩
/-- dict(d) -/
def rDictC : List V → Hp → VK → Prop := fun xs H Q => ∃ a kvs, xs = [.ref a] ∧ H a = some (.dK kvs) ∧ ∀ p H1, H p = none → Same H H1 → H1 p = some (.dK kvs) → Q (.ref p) H1
theorem c_dictC : CallR X (.type "dict") rDictC := by
  intro pins s σ H xs us Q I r h
  obtain ⟨a, kvs, rfl, ha, q⟩ := h
  obtain ⟨u, rfl, ru⟩ := vals1 r
  cases (show u = Value.ref a from ru)
  exact d_copyOf I (.inl ha) fun p s' hp I' => ⟨.ref p, _, I', rfl, q p _ hp (same_new hp) upd_same⟩
theorem rd_dictC {a : Addr} {kvs : List (Key × V)} (h : H a = some (.dK kvs)) (q : ∀ p H1, H p = none → Same H H1 → H1 p = some (.dK kvs) → Q (.ref p) H1) : rDictC [.ref a] H Q := ⟨a, kvs, rfl, h, q⟩
/-- == and != of two dicts of texts that have the same pairs in the same order -/
def txtK (kvs : List (Key × V)) : Prop := ∀ q ∈ kvs, ∃ z, q.2 = .str z
theorem valV_mem {κ : Type} [DecidableEq κ] {k : κ} {v : V} : ∀ {kvs : List (κ × V)}, (kvs.map (·.1)).Nodup → (k, v) ∈ kvs → valV kvs k = some v
  | q :: kvs, hn, hm => by
    rw [List.map_cons, List.nodup_cons] at hn
    rcases List.mem_cons.mp hm with e | e
    · subst e; exact valV_pos rfl
    · rw [valV_neg (fun z => hn.1 (by rw [z]; exact List.mem_map.mpr ⟨_, e, rfl⟩))]
      exact valV_mem hn.2 e
theorem hits_in {A : Around} {s : Shared} {kb : List (Key × Value)} : ∀ {ks : List (Key × V)} {vs : List (Key × Value)}, KV ks vs → (∀ k v, (k, v) ∈ ks → ∃ z, v = .str z ∧ ∃ t', valueAt kb k = some (.str z t')) → PySem.W.KeqHits A s kb vs true := by
  intro ks vs r
  unfold KV at r
  induction r with
  | nil => intro _; exact .nil
  | @cons p q ks vs h r ih =>
    intro hin
    obtain ⟨kp, vp⟩ := p
    obtain ⟨kq, vq⟩ := q
    obtain ⟨h1, h2⟩ := h
    simp only at h1 h2
    subst h1
    obtain ⟨z, rfl, t', hv⟩ := hin kp vp List.mem_cons_self
    obtain ⟨t, rfl⟩ := h2
    have := PySem.W.KeqHits.hit (A := A) (s := s) hv (SeqAt.EqAt.str_str z t z t') (ih fun k v hm => hin k v (List.mem_cons_of_mem _ hm))
    simpa using this
theorem dict_hits {prog : Program} {w : World} {A : Around} {s : Shared} {a : Addr} {kvs : List (Key × V)} {v1 v2 : List (Key × Value)} (r1 : KV kvs v1) (r2 : KV kvs v2) (d1 : s.heap.DictOf (mixKind prog w) a v1) (ht : txtK kvs) : PySem.W.KeqHits A s v2 v1 true := by
  obtain ⟨_, _, _, _, _, _, _, _, nd⟩ := d1
  rw [← r1.keys] at nd
  refine hits_in r1 fun k v hm => ?_
  obtain ⟨z, hz⟩ := ht _ hm
  simp only at hz
  subst hz
  refine ⟨z, rfl, ?_⟩
  have hv := r2.val k
  rw [valV_mem nd hm] at hv
  obtain ⟨y, hy, t', rfl⟩ := RelO.some_of hv
  exact ⟨t', hy⟩
def rEqK : R2 := fun x y H Q => ∃ a b kvs, x = .ref a ∧ y = .ref b ∧ H a = some (.dK kvs) ∧ H b = some (.dK kvs) ∧ txtK kvs ∧ Q (.bl true) H
def rNeK : R2 := fun x y H Q => ∃ a b kvs, x = .ref a ∧ y = .ref b ∧ H a = some (.dK kvs) ∧ H b = some (.dK kvs) ∧ txtK kvs ∧ Q (.bl false) H
theorem o_eqK (hu : X.A.units + 100 < cLine) : OpR X (compareOp .Eq) rEqK := by
  intro pins s σ H x y v u Q I rx ry h
  obtain ⟨a, b, kvs, rfl, rfl, ha, hb, ht, q⟩ := h
  cases (show v = Value.ref a from rx)
  cases (show u = Value.ref b from ry)
  obtain ⟨_, ea, v1, r1, d1⟩ := dk_of I.hok ha
  obtain ⟨_, eb, v2, r2, d2⟩ := dk_of I.hok hb
  refine PySem.W.keq_eq (r := true) ea eb d1 d2 (by omega) (fun _ => dict_hits r1 r2 d1 ht) ⟨.bl true, H, I, ?_, q⟩
  rw [show v1.length = v2.length by rw [← r1.length, ← r2.length]]
  simp
  rfl
theorem o_neK (hu : X.A.units + 100 < cLine) : OpR X (compareOp .NotEq) rNeK := by
  intro pins s σ H x y v u Q I rx ry h
  obtain ⟨a, b, kvs, rfl, rfl, ha, hb, ht, q⟩ := h
  cases (show v = Value.ref a from rx)
  cases (show u = Value.ref b from ry)
  obtain ⟨_, ea, v1, r1, d1⟩ := dk_of I.hok ha
  obtain ⟨_, eb, v2, r2, d2⟩ := dk_of I.hok hb
  refine PySem.W.keq_ne (r := true) ea eb d1 d2 (by omega) (fun _ => dict_hits r1 r2 d1 ht) ⟨.bl false, H, I, ?_, q⟩
  rw [show v1.length = v2.length by rw [← r1.length, ← r2.length]]
  simp
  rfl
theorem rd_eqK {a b : Addr} {kvs : List (Key × V)} (h1 : H a = some (.dK kvs)) (h2 : H b = some (.dK kvs)) (ht : txtK kvs) (h : Q (.bl true) H) : rEqK (.ref a) (.ref b) H Q := ⟨a, b, kvs, rfl, rfl, h1, h2, ht, h⟩
theorem rd_neK {a b : Addr} {kvs : List (Key × V)} (h1 : H a = some (.dK kvs)) (h2 : H b = some (.dK kvs)) (ht : txtK kvs) (h : Q (.bl false) H) : rNeK (.ref a) (.ref b) H Q := ⟨a, b, kvs, rfl, rfl, h1, h2, ht, h⟩
/-- name in d -/
def rInK (K : PySem.W.Frag) : R2 := fun x y H Q => ∃ z a kvs, x = .str z ∧ y = .ref a ∧ H a = some (.dK kvs) ∧ Q (.bl (valV kvs (.inr z)).isSome) H
theorem op_inK (hu : X.A.units + 100 < cLine) : OpR X (compareOp .In) (rInK X.K) := by
  intro pins s σ H x y v u Q I rx ry h
  obtain ⟨z, a, kvs, rfl, rfl, ha, q⟩ := h
  cases (show u = Value.ref a from ry)
  exact d_in (y := kV (.inr z)) (by omega) I (DGet.k ha) rx fun s' I' => ⟨.bl _, H, I', rfl, q⟩
theorem rd_inK {z : Str} {a : Addr} {kvs : List (Key × V)} (h1 : H a = some (.dK kvs)) (h : Q (.bl (valV kvs (.inr z)).isSome) H) : rInK K (.str z) (.ref a) H Q := ⟨z, a, kvs, rfl, rfl, h1, h⟩
/-! the steps of a reading -/
instance yc1 {ta : TE} {fl : Str} : RdS (tFld K ta fl σ H Q) (ta σ H fun x H1 => ∃ a C dx fs v, x = .ref a ∧ H1 a = some (.ins C dx fs) ∧ Cls K C ∧ NoAttr K C fl ∧ fs.lookup fl = some v ∧ Q v H1) := ⟨id⟩
instance yc2 {ta : TE} {fl : Str} {D : Ends} : RdS (sFld K ta tv fl D σ H) (tv σ H fun y H1 => ta σ H1 fun x H2 => ∃ a C dx fs, x = .ref a ∧ H2 a = some (.ins C dx fs) ∧ Cls K C ∧ NoAttr K C fl ∧ fs.length < 1000 ∧ D.nx σ (upd H2 a (.ins C dx (putF fl y fs)))) := ⟨id⟩
instance yc3 {C : Addr} {m : Str} {sp : Sp} {dvs : List V} {E : XK} {ta : TE} {t : TA} : RdS (tMeth C m sp dvs E ta t σ H Q) (ta σ H fun x H1 => ∃ a dx fs, x = .ref a ∧ H1 a = some (.ins C dx fs) ∧ fs.lookup m = none ∧ t σ H1 fun vs H2 => sp (x :: (vs ++ dvs)) H2 Q E) := ⟨id⟩
instance yc4 {C : Addr} {m : Str} {sp : Sp} {dvs : List V} {EX : St → XK} {ta : TE} {t : TA} : RdS (tMethS C m sp dvs EX ta t σ H Q) (ta σ H fun x H1 => ∃ a dx fs, x = .ref a ∧ H1 a = some (.ins C dx fs) ∧ fs.lookup m = none ∧ t σ H1 fun vs H2 => sp (x :: (vs ++ dvs)) H2 Q (EX σ)) := ⟨id⟩
instance yc5 {C : Addr} {sp : Sp} {dvs : List V} {E : XK} {t : TA} : RdS (tMake C sp dvs E t σ H Q) (t σ H fun vs H1 => ∀ x dx, H1 x = none → H1 dx = none → dx ≠ x → sp (.ref x :: (vs ++ dvs)) (upd (upd H1 dx (.own x)) x (.ins C dx [])) (fun v H2 => v = .non ∧ Q (.ref x) H2) E) := ⟨id⟩
instance yc6 : RdS (tDNewK σ H Q) (∀ p, H p = none → Q (.ref p) (upd H p (.dK []))) := ⟨id⟩
instance yc7 {D : Ends} : RdS (sDPut td ty tv D σ H) (tv σ H fun v H1 => td σ H1 fun x H2 => ty σ H2 fun y H3 => ∃ a H4, x = .ref a ∧ DPut H3 a y v H4 ∧ D.nx σ H4) := ⟨id⟩
instance yc8 : RdS (tDGet2 td ty tx σ H Q) (td σ H fun x H1 => ∃ a, x = .ref a ∧ IsD H1 a ∧ ty σ H1 fun y H2 => tx σ H2 fun z H3 => ∃ o, DGet H3 a y o ∧ Q (o.getD z) H3) := ⟨id⟩
instance yc9 : RdS (tDPop1 td ty σ H Q) (td σ H fun x H1 => ∃ a, x = .ref a ∧ IsD H1 a ∧ ty σ H1 fun y H2 => ∃ kvs k v, H2 a = some (.dK kvs) ∧ y = kV k ∧ valV kvs k = some v ∧ Q v (upd H2 a (.dK (dropK kvs k)))) := ⟨id⟩
end
/-! ### xs.remove(text) -/
section
variable {X : Cx} {K : PySem.W.Frag} {σ : St} {H : Hp} {Q : VK} {o e : Expr} {es : List Expr} {to : TE} {t : TA} {apos cpos : Pos}
def sameT (z : Str) : Value → Bool
  | .str a _ => a.cps.toList == z.cps.toList
  | _ => false
def rRemT : V → List V → Hp → VK → Prop := fun x vs H Q => ∃ (l : Addr) (zs : List Str) (z : Str), x = .ref l ∧ vs = [.str z] ∧ H l = some (.lst (zs.map V.str)) ∧ z ∈ zs ∧ Q .non (upd H l (.lst ((zs.erase z).map V.str)))
end
end L2

set_option Elab.async false
set_option linter.all false
set_option maxRecDepth 100000
set_option maxHeartbeats 4000000
namespace L2
open PySem PySem.Spec PyProof.Rows
/-! ### list(d), sorted(d) of a dict whose keys are texts -/
section
variable {X : Cx} {K : PySem.W.Frag} {σ : St} {H : Hp} {Q : VK}
/-- what is collected from a thing that can be walked, behind a new list -/
theorem collect_d {prog : Program} {w : World} {A : Around} {E : Value → Shared → Prop} {s : Shared} {T : String} {r d : Addr} {n : Nat} {P : Nat → Value → Prop} {OK : Heap → Prop} {R : List Value → Shared → Prop}
    (src : PySem.W.KdlSrc prog w T r d n P OK) (calm : A.handled = none) (ok : OK s.heap) (fits : n ≤ sizeLine)
    (go : ∀ (g : Heap) (tk : Nat) (its : Array Value), s.heap.objs.size < g.objs.size → (∀ b o, s.heap.get? b = some o → g.get? b = some o) → ItemsOf P its n → R its.toList { s with heap := g, toks := tk }) :
    wpAny (model prog w) A (collect (.ref r)) R E s := by
  obtain ⟨lr, ld⟩ := src.there _ ok
  unfold collect
  refine wpAny_bind (wpAny_runValue (codeAny_builtin entry_proto_collect' (?_ : _)))
  rw [(Around.under_plainId F.plain_proto_collect _ :)]
  show wpAny (model prog w) A.in1 (newList [] >>= fun (x : Value) => again (.builtin "list.__iadd__" ⟨[x, .ref r], []⟩)) _ _ s
  refine wpAny_bind (wpAny_newObj_type (?_ : _))
  refine wpAny_pure (⟨plainId_quiet F.plain_list_iadd _, codeAny_builtin entry_list_iadd' (?_ : _)⟩ : _ ∧ _)
  rw [(Around.under_plainId F.plain_list_iadd _ :)]
  have laid : (s.heap.push { cls := .type "list", data := .seq ([] : List Value).toArray }).get? s.heap.objs.size = some { cls := .type "list", data := .seq #[] } := by exact Heap.get?_push_size _ rfl
  show wpAny (model prog w) A.in1 (Builtin.List.listExtendWith (.ref s.heap.objs.size) (.ref r) (.ref s.heap.objs.size)) _ _ _
  have run := PySem.W.kdl_extend (A := A) (s := { s with heap := s.heap.push { cls := .type "list", data := .seq ([] : List Value).toArray } })
    (R := fun (q : Result) (u : Shared) => ∃ (g : Heap) (tk : Nat) (its : Array Value) (c : Nat), q = .ok (.ret (.ref s.heap.objs.size)) ∧ u = { s with heap := g, toks := tk } ∧ (∀ b o, s.heap.get? b = some o → g.get? b = some o) ∧ g.get? s.heap.objs.size = some { cls := .type "list", dict := none, data := .seq its c, slots := #[] } ∧ ItemsOf P its n)
    src calm (src.keep _ _ ok fun b _ o e => Heap.get?_push_of_some _ e) s.heap.objs.size (Nat.ne_of_gt lr) (Nat.ne_of_gt ld) (.ref s.heap.objs.size) 0 laid
    (fun g tk its c kept there all => ⟨g, tk, its, c, rfl, rfl, fun b o e => kept b o (Nat.ne_of_lt (Heap.lt_size e)) (Heap.get?_push_of_some _ e), there, all⟩) fits
  refine wpAny_mono run (fun fin u y => ?_) fun e u y => ?_
  · cases fin with
    | done f =>
      obtain ⟨g, tk, its, c, e, rfl, kept, there, all⟩ := y
      cases e
      exact wpAny_bind (wpAny_load there (wpAny_pure (go g tk its (Heap.lt_size there) kept all)))
    | again c1 =>
      refine ⟨y.1, codeAny_mono y.2 fun q u2 z => ?_⟩
      obtain ⟨g, tk, its, c, rfl, rfl, kept, there, all⟩ := z
      exact wpAny_bind (wpAny_load there (wpAny_pure (go g tk its (Heap.lt_size there) kept all)))
  · obtain ⟨_, _, _, _, no, _⟩ := y
    cases no
theorem keyIs_txt {z : Str} {v : Value} (h : keyIs (.inr z) v = true) : ∃ t, v = .str z t := Value.isStrOf_shape h
theorem vals_of : ∀ {xs : List V} {us : List Value}, xs.length = us.length → (∀ (i : Nat) v u, xs[i]? = some v → us[i]? = some u → RelV v u) → Vals xs us
  | [], [], _, _ => .nil
  | x :: xs, u :: us, hl, h => .cons (h 0 x u rfl rfl) (vals_of (Nat.succ.inj hl) fun i v u' hv hu => h (i + 1) v u' hv hu)
theorem vals_keys {kvs : List (Key × V)} {v1 : List (Key × Value)} {zs : List Str} {acc : Array Value} (r : KV kvs v1) (hk : kvs.map (·.1) = zs.map Sum.inr) (h : ItemsOf (fun i v => ∃ k x, v1[i]? = some (k, x) ∧ keyIs k v = true) acc v1.length) : Vals (zs.map V.str) acc.toList := by
  have e1 : v1.map (·.1) = zs.map Sum.inr := by rw [← r.keys]; exact hk
  have hl : v1.length = zs.length := by
    have := congrArg List.length e1
    rwa [List.length_map, List.length_map] at this
  obtain ⟨hs, hi⟩ := h
  refine vals_of (by rw [List.length_map]; have := Array.length_toList (xs := acc); omega) fun i v u hv hu => ?_
  rw [Array.getElem?_toList] at hu
  obtain ⟨k, x, h1, h2⟩ := hi i u hu
  rw [List.getElem?_map] at hv
  obtain ⟨z, hz, rfl⟩ := Option.map_eq_some_iff.mp hv
  have e2 : (v1.map (·.1))[i]? = some k := by rw [List.getElem?_map, h1]; rfl
  rw [e1, List.getElem?_map, hz] at e2
  cases Option.some.inj e2
  exact keyIs_txt h2
def rListD : List V → Hp → VK → Prop := fun xs H Q => ∃ (a : Addr) (kvs : List (Key × V)) (zs : List Str), xs = [.ref a] ∧ H a = some (.dK kvs) ∧ kvs.map (·.1) = zs.map Sum.inr ∧ kvs.length ≤ 1000 ∧ ∀ p H1, H p = none → Same H H1 → H1 p = some (.lst (zs.map V.str)) → Q (.ref p) H1
theorem c_listD (hc : X.calm = true := by rfl) : CallR X (.type "list") rListD := by
  intro pins s σ H xs us Q I r h
  obtain ⟨a, kvs, zs, rfl, ha, hk, hl, q⟩ := h
  obtain ⟨u, rfl, ru⟩ := vals1 r
  cases (show u = Value.ref a from ru)
  obtain ⟨_, ea, v1, r1, d1⟩ := dk_of I.hok ha
  obtain ⟨ep, hat⟩ := d1.dictAt
  have hz : sizeLine = 16777216 := sizeLine_eq
  have hl1 := r1.length
  have hlz : (zs.map V.str).length = kvs.length := by
    have := congrArg List.length hk
    rw [List.length_map, List.length_map] at this
    rw [List.length_map, this]
  refine PySem.W.kdl_call (PySem.W.kdl_dict (knd := mixKind X.prog X.w) (kvs := v1) (ep := ep) ea) (I.ok.hd hc) hat (by omega) fun h' tk acc c kp hD hacc => ?_
  have hn : H s.heap.objs.size = none := I.hok.fresh (Nat.le_refl _)
  refine ⟨.ref s.heap.objs.size, _, I.laid (a := s.heap.objs.size) (o := .lst (zs.map V.str)) (t' := tk) kp (Nat.le_refl _) ⟨by omega, acc.toList, c, vals_keys r1 hk hacc, ?_⟩, rfl, q _ _ hn (same_new hn) upd_same⟩
  rw [Array.toArray_toList]
  exact hD
theorem rd_listD {a : Addr} {kvs : List (Key × V)} (zs : List Str) (h1 : H a = some (.dK kvs)) (h2 : kvs.map (·.1) = zs.map Sum.inr) (h3 : kvs.length ≤ 1000) (q : ∀ p H1, H p = none → Same H H1 → H1 p = some (.lst (zs.map V.str)) → Q (.ref p) H1) : rListD [.ref a] H Q := ⟨a, kvs, zs, rfl, h1, h2, h3, q⟩
def rSortD : List V → Hp → VK → Prop := fun xs H Q => ∃ (a : Addr) (kvs : List (Key × V)) (zs : List Str), xs = [.ref a] ∧ H a = some (.dK kvs) ∧ kvs.map (·.1) = zs.map Sum.inr ∧ kvs.length < 64 ∧ ∀ zs' p H1, zs'.Perm zs → sortedS zs' = true → H p = none → Same H H1 → H1 p = some (.lst (zs'.map V.str)) → Q (.ref p) H1
theorem c_sortD (hc : X.calm = true := by rfl) : CallR X (.builtin "sorted") rSortD := by
  intro pins s σ H xs us Q I r h
  obtain ⟨a, kvs, zs, rfl, ha, hk, hl, q⟩ := h
  obtain ⟨u, rfl, ru⟩ := vals1 r
  cases (show u = Value.ref a from ru)
  obtain ⟨_, ea, v1, r1, d1⟩ := dk_of I.hok ha
  obtain ⟨ep, hat⟩ := d1.dictAt
  have hz : sizeLine = 16777216 := sizeLine_eq
  have hl1 := r1.length
  refine Calls.call_function_entry kind_sorted plain_sorted entry_sorted (args_sorted1 _) ?_
  unfold Builtin.«sorted»
  refine wpAny_bind (m := checkCount "sorted" 1 1 _) (wpAny_pure ?_)
  refine wpAny_bind (collect_d (PySem.W.kdl_dict (knd := mixKind X.prog X.w) (kvs := v1) (ep := ep) ea) (show X.A.in1.handled = none from I.ok.hd hc) hat (by omega) fun h' tk acc ksz kp hacc => ?_)
  have rv := vals_keys r1 hk hacc
  have hal : acc.toList.length = kvs.length := by rw [Array.length_toList, hacc.1]; omega
  refine wpAny_bind (wpAny_newList ?_ (by omega))
  have hS := strsAre_of rv
  have hoL : (h'.push (seqObj "list" acc.toList.toArray 0)).get? h'.objs.size = some (seqObj "list" acc.toList.toArray 0) := Heap.get?_push_size _ rfl
  refine wpAny_bind (wpAny_holding (wpAny_call_entry slot_list_sort ⟨_, hoL, rfl⟩ entry_list_sort (list_sort_treeK strKind_oneLt hoL hS.keysOf (fun v₁ v₂ rest e => keyKind_strs (by rw [← e]; exact hS)) (by omega) fun st' a1 a2 => ⟨_, rfl, ?_⟩) (args_list_sort _)))
  refine wpAny_pure ⟨_, rfl, ?_⟩
  obtain ⟨zs', b1, b2, b3⟩ := sorted_out_str hS a1 a2
  obtain ⟨e, he⟩ := sortedHeap_at (out := (arrOf st').map (·.2)) hoL
  have hn : H h'.objs.size = none := I.hok.fresh (Nat.le_of_lt ksz)
  refine ⟨.ref h'.objs.size, _, I.laid (a := h'.objs.size) (o := .lst (zs'.map V.str)) (t' := tk) (fun b u hb => ?_) (Nat.le_of_lt ksz) ⟨?_, ((arrOf st').map (·.2)).toList, e, strsVals b1, ?_⟩, rfl, q zs' _ _ b2 b3 hn (same_new hn) upd_same⟩
  · have hb' := kp _ _ hb
    rw [sortedHeap_old (Nat.ne_of_lt (Heap.lt_size hb')) (Nat.lt_of_lt_of_le (Heap.lt_size hb') (by rw [size_push']; exact Nat.le_succ _))]
    exact Heap.get?_push_of_some _ hb'
  · rw [List.length_map, b2.length_eq]
    have := congrArg List.length hk
    rw [List.length_map, List.length_map] at this
    omega
  · rw [Array.toArray_toList]
    exact he
theorem rd_sortD {a : Addr} {kvs : List (Key × V)} (zs : List Str) (h1 : H a = some (.dK kvs)) (h2 : kvs.map (·.1) = zs.map Sum.inr) (h3 : kvs.length < 64) (q : ∀ zs' p H1, zs'.Perm zs → sortedS zs' = true → H p = none → Same H H1 → H1 p = some (.lst (zs'.map V.str)) → Q (.ref p) H1) : rSortD [.ref a] H Q := ⟨a, kvs, zs, rfl, h1, h2, h3, q⟩
end
end L2

set_option Elab.async false
set_option linter.all false
set_option maxRecDepth 100000
set_option maxHeartbeats 4000000
namespace L2
open PySem PySem.Spec PyProof.Rows
/-! ### two sorted lists of the same texts are the same -/
theorem rising_le : ∀ (r : List Str) (x : Str), risingS x r = true → (∀ y ∈ r, ¬ y.cps.toList < x.cps.toList) ∧ sortedS r = true
  | [], _, _ => ⟨(fun y hy => nomatch hy), rfl⟩
  | z :: r, x, h => by
    unfold risingS at h
    rw [Bool.and_eq_true, Bool.not_eq_true', ltCps_eq, decide_eq_false_iff_not] at h
    obtain ⟨h1, h2⟩ := h
    refine ⟨fun y hy => ?_, h2⟩
    rcases List.mem_cons.mp hy with rfl | hy
    · exact h1
    · have h3 := (rising_le r z h2).1 y hy
      exact fun c => h1 (List.lt_of_le_of_lt (List.not_lt.mp h3) c)
theorem perm_sortedS : ∀ {xs ys : List Str}, xs.Perm ys → sortedS xs = true → sortedS ys = true → xs = ys
  | [], ys, h, _, _ => by rw [h.nil_eq]
  | x :: xs, [], h, _, _ => by have := h.length_eq; simp at this
  | x :: xs, y :: ys, h, h1, h2 => by
    obtain ⟨a1, b1⟩ := rising_le xs x h1
    obtain ⟨a2, b2⟩ := rising_le ys y h2
    have e : x = y := by
      rcases List.mem_cons.mp (h.mem_iff.mp (List.mem_cons_self (a := x) (l := xs))) with e | e
      · exact e
      · rcases List.mem_cons.mp (h.mem_iff.mpr (List.mem_cons_self (a := y) (l := ys))) with e' | e'
        · exact e'.symm
        · exact str_ext (List.le_antisymm (List.not_lt.mp (a1 y e')) (List.not_lt.mp (a2 x e)))
    subst e
    rw [perm_sortedS ((List.perm_cons x).mp h) b1 b2]
/-! d[k], the key being there -/
section
variable {X : Cx} {K : PySem.W.Frag} {σ : St} {H : Hp} {Q : VK} {o i : Expr} {td ty : TE} {pos : Pos}
theorem b_dget (hu : X.A.units + 1 < cLine) (ho : BE X o td) (hi : BE X i ty) (hs : NoSl i) : BE X (.Subscript o i pos) (tDGet td ty) := ⟨pe_dget hu ho.h hi.h hs⟩
/-! d == {} -/
def rEqE : R2 := fun x y H Q => ∃ a b kvs, x = .ref a ∧ y = .ref b ∧ H a = some (.dK kvs) ∧ H b = some (.dK []) ∧ Q (.bl kvs.isEmpty) H
theorem o_eqE (hu : X.A.units + 100 < cLine) : OpR X (compareOp .Eq) rEqE := by
  intro pins s σ H x y v u Q I rx ry h
  obtain ⟨a, b, kvs, rfl, rfl, ha, hb, q⟩ := h
  cases (show v = Value.ref a from rx)
  cases (show u = Value.ref b from ry)
  obtain ⟨_, ea, v1, r1, d1⟩ := dk_of I.hok ha
  obtain ⟨_, eb, v2, r2, d2⟩ := dk_of I.hok hb
  have l2 : v2 = [] := List.length_eq_zero_iff.mp r2.length.symm
  subst l2
  have l1 := r1.length
  refine PySem.W.keq_eq (r := true) ea eb d1 d2 (by omega) (fun e => ?_) ⟨.bl kvs.isEmpty, H, I, ?_, q⟩
  · have : v1 = [] := by
      cases v1 with
      | nil => rfl
      | cons p v1 => simp at e
    subst this
    exact .nil
  · cases kvs with
    | nil =>
      have : v1 = [] := List.length_eq_zero_iff.mp l1.symm
      subst this
      rfl
    | cons p kvs =>
      cases v1 with
      | nil => simp at l1
      | cons p' v1 => rfl
theorem rd_eqE {a b : Addr} {kvs : List (Key × V)} (h1 : H a = some (.dK kvs)) (h2 : H b = some (.dK [])) (h : Q (.bl kvs.isEmpty) H) : rEqE (.ref a) (.ref b) H Q := ⟨a, b, kvs, rfl, rfl, h1, h2, h⟩
def rNotInK : R2 := fun x y H Q => ∃ z a kvs, x = .str z ∧ y = .ref a ∧ H a = some (.dK kvs) ∧ Q (.bl (!(valV kvs (.inr z)).isSome)) H
theorem op_notinK (hu : X.A.units + 100 < cLine) : OpR X (compareOp .NotIn) rNotInK := by
  intro pins s σ H x y v u Q I rx ry h
  obtain ⟨z, a, kvs, rfl, rfl, ha, q⟩ := h
  cases (show u = Value.ref a from ry)
  exact d_notIn (y := kV (.inr z)) (by omega) I (DGet.k ha) rx fun s' I' => ⟨.bl _, H, I', rfl, q⟩
theorem rd_notinK {z : Str} {a : Addr} {kvs : List (Key × V)} (h1 : H a = some (.dK kvs)) (h : Q (.bl (!(valV kvs (.inr z)).isSome)) H) : rNotInK (.str z) (.ref a) H Q := ⟨z, a, kvs, rfl, rfl, h1, h⟩
instance yf1 : RdS (tDGet td ty σ H Q) (td σ H fun x H1 => ty σ H1 fun y H2 => ∃ a v, x = .ref a ∧ DGet H2 a y (some v) ∧ Q v H2) := ⟨id⟩
end
end L2

set_option Elab.async false
set_option linter.all false
set_option maxRecDepth 100000
set_option maxHeartbeats 4000000
namespace T50
open PySem L2


def top (i : Nat) : Stmt := PySem.Challenge.pw_tierstore_k50_a_disk.main.body.getD i (.Pass ⟨0, 0, 0, 0⟩)
abbrev s__law_whole : Stmt := top 8
abbrev s__law_cell_at : Stmt := top 9
abbrev s__law_mixed : Stmt := top 10
abbrev s__law_held : Stmt := top 11
abbrev s__law_name : Stmt := top 12
abbrev s__law_text : Stmt := top 13
abbrev s__law_files : Stmt := top 14
abbrev s__law_step : Stmt := top 15
abbrev s__law_told : Stmt := top 16
abbrev s__law_way : Stmt := top 17
abbrev s__law_looked : Stmt := top 18
abbrev s_law : Stmt := top 19
abbrev s_NoFile_init : Stmt := inClass (top 3) 0
abbrev s_Stopped_init : Stmt := inClass (top 4) 0
abbrev s_Disk_init : Stmt := inClass (top 6) 0
abbrev s_Disk_names : Stmt := inClass (top 6) 1
abbrev s_Disk_has : Stmt := inClass (top 6) 2
abbrev s_Disk_text : Stmt := inClass (top 6) 3
abbrev s_Disk_files : Stmt := inClass (top 6) 4
abbrev s_Disk_steps : Stmt := inClass (top 6) 5
abbrev s_Disk_has_stopped : Stmt := inClass (top 6) 6
abbrev s_Disk_write : Stmt := inClass (top 6) 8
abbrev s_Disk_lengthen : Stmt := inClass (top 6) 9
abbrev s_Disk_take_off : Stmt := inClass (top 6) 10
abbrev s_Disk_add_behind : Stmt := inClass (top 6) 11
abbrev s_Disk_lengthen_torn : Stmt := inClass (top 6) 12
abbrev s_Disk_is_at_the_stop : Stmt := inClass (top 6) 13
abbrev s_Disk_refuse_at_the_stop : Stmt := inClass (top 6) 14
abbrev s_Disk_refuse_what_is_not_there : Stmt := inClass (top 6) 15
structure Cs where
  TierError : Addr
  NoFile : Addr
  Stopped : Addr
  Disk : Addr
  Disk_init : Addr
  Disk_names : Addr
  Disk_has : Addr
  Disk_text : Addr
  Disk_files : Addr
  Disk_steps : Addr
  Disk_has_stopped : Addr
  Disk_write : Addr
  Disk_lengthen : Addr
  Disk_take_off : Addr
  Disk_add_behind : Addr
  Disk_lengthen_torn : Addr
  Disk_is_at_the_stop : Addr
  Disk_refuse_at_the_stop : Addr
  Disk_refuse_what_is_not_there : Addr
  NoFile_init : Addr
  Stopped_init : Addr
structure Cl (K : PySem.W.Frag) (mg : Str → Option Value) (c : Cs) : Prop where
  m_TierError : mg "TierError" = some (.ref c.TierError)
  m_NoFile : mg "NoFile" = some (.ref c.NoFile)
  m_Stopped : mg "Stopped" = some (.ref c.Stopped)
  m_Disk : mg "Disk" = some (.ref c.Disk)
  xi_Stopped : excInI K c.Stopped veMro "ValueError.__new__" c.Stopped_init = true
  ur_TierError : PySem.W.readsIn K c.TierError (.type "type") = true
  uf_TierError : PySem.W.findCls K (.ref c.TierError) (.type "type") "__init__" = some (.val (.builtin "ValueError.__init__"))
  ug_TierError : PySem.W.specialIn K (.ref c.TierError) "__getattribute__" = some (some (.builtin "type.__getattribute__"))
  fd_Stopped : excFd K c.Stopped = true
  hm_Stopped : PySem.W.mroIn K c.Stopped (.type "object") = some true
  hs_Stopped : PySem.W.findIn K (.ref c.Stopped) "__setattr__" = some (some (.builtin "object.__setattr__"))
  hf_Stopped : PySem.W.findIn K (.ref c.Stopped) "step" = some none
  tb_Stopped : PySem.W.kitCls K (.ref c.Stopped) (.type "BaseException") = some true
  na1 : PySem.W.findIn K (.ref c.Disk) "texts" = some none
  na2 : PySem.W.findIn K (.ref c.Disk) "done" = some none
  na3 : PySem.W.findIn K (.ref c.Disk) "stops_behind" = some none
  na4 : PySem.W.findIn K (.ref c.Disk) "torn" = some none
  na5 : PySem.W.findIn K (.ref c.Disk) "refused" = some none
  xi_NoFile : excInI K c.NoFile veMro "ValueError.__new__" c.NoFile_init = true
  fd_NoFile : excFd K c.NoFile = true
  hm_NoFile : PySem.W.mroIn K c.NoFile (.type "object") = some true
  hs_NoFile : PySem.W.findIn K (.ref c.NoFile) "__setattr__" = some (some (.builtin "object.__setattr__"))
  tb_NoFile : PySem.W.kitCls K (.ref c.NoFile) (.type "BaseException") = some true
  hf_NoFile : PySem.W.findIn K (.ref c.NoFile) "name" = some none
  kk_Stopped : PySem.W.kitCls K (.ref c.Stopped) (.ref c.Stopped) = some true
  g1_Stopped : PySem.W.findIn K (.ref c.Stopped) "__getattribute__" = some (some (.builtin "BaseException.__getattribute__"))
  g2_Stopped : PySem.W.findIn K (.ref c.Stopped) "__getattr__" = some none
  g3_Stopped : PySem.W.mroIn K c.Stopped (.type "BaseException") = some true
  g4_Stopped : PySem.W.hasDictIn K c.Stopped = true
  kk_NoFile : PySem.W.kitCls K (.ref c.NoFile) (.ref c.NoFile) = some true
  g1_NoFile : PySem.W.findIn K (.ref c.NoFile) "__getattribute__" = some (some (.builtin "BaseException.__getattribute__"))
  g2_NoFile : PySem.W.findIn K (.ref c.NoFile) "__getattr__" = some none
  g3_NoFile : PySem.W.mroIn K c.NoFile (.type "BaseException") = some true
  g4_NoFile : PySem.W.hasDictIn K c.NoFile = true
  kx : PySem.W.kitCls K (.ref c.Stopped) (.ref c.NoFile) = some false
  tt : PySem.W.kitCls K (.ref c.NoFile) (.ref c.TierError) = some true
  tb_TierError : PySem.W.kitCls K (.ref c.TierError) (.type "BaseException") = some true
  ha : PySem.W.findIn K (.ref c.NoFile) "__class__" = some (some (.builtin "object.__class__"))
  hn : PySem.W.specialIn K (.builtin "object.__class__") "__get__" = some (some (.builtin "getset_descriptor.__get__"))
  ht : PySem.W.takesIn K (.builtin "object.__class__") = some true
  o1 : PySem.W.kitOne K (.ref c.NoFile) (.ref c.Stopped) = some false
  o2 : PySem.W.kitOne K (.ref c.NoFile) (.ref c.NoFile) = some true
  i_NoFile : ∃ fd, Fun K "__init__" "NoFile.__init__" s_NoFile_init c.NoFile_init fd ∧ Binds K fd ["self", "name"] []
  i_Stopped : ∃ fd, Fun K "__init__" "Stopped.__init__" s_Stopped_init c.Stopped_init fd ∧ Binds K fd ["self", "step"] []
  i_Disk_init : ∃ fd dV, FunD K "__init__" "Disk.__init__" s_Disk_init dV c.Disk_init fd ∧ HasB K fd ["self", "files", "stop", "torn"] [] ∧ HasB K fd ["self", "files", "stop", "torn"] [.int 0] ∧ HasB K fd ["self", "files", "stop", "torn"] [.non, .int 0] ∧ HasB K fd ["self", "files", "stop", "torn"] [.non, .non, .int 0]
  mk_Disk : Mk K c.Disk c.Disk_init
  i_Disk_names : ∃ fd dV, FunD K "names" "Disk.names" s_Disk_names dV c.Disk_names fd ∧ HasB K fd ["self"] []
  me_Disk_names : Meth K c.Disk "names" c.Disk_names
  i_Disk_has : ∃ fd dV, FunD K "has" "Disk.has" s_Disk_has dV c.Disk_has fd ∧ HasB K fd ["self", "name"] []
  me_Disk_has : Meth K c.Disk "has" c.Disk_has
  i_Disk_text : ∃ fd dV, FunD K "text" "Disk.text" s_Disk_text dV c.Disk_text fd ∧ HasB K fd ["self", "name"] []
  me_Disk_text : Meth K c.Disk "text" c.Disk_text
  i_Disk_files : ∃ fd dV, FunD K "files" "Disk.files" s_Disk_files dV c.Disk_files fd ∧ HasB K fd ["self"] []
  me_Disk_files : Meth K c.Disk "files" c.Disk_files
  i_Disk_steps : ∃ fd dV, FunD K "steps" "Disk.steps" s_Disk_steps dV c.Disk_steps fd ∧ HasB K fd ["self"] []
  me_Disk_steps : Meth K c.Disk "steps" c.Disk_steps
  i_Disk_has_stopped : ∃ fd dV, FunD K "has_stopped" "Disk.has_stopped" s_Disk_has_stopped dV c.Disk_has_stopped fd ∧ HasB K fd ["self"] []
  me_Disk_has_stopped : Meth K c.Disk "has_stopped" c.Disk_has_stopped
  i_Disk_write : ∃ fd dV, FunD K "write" "Disk.write" s_Disk_write dV c.Disk_write fd ∧ HasB K fd ["self", "name", "text"] []
  me_Disk_write : Meth K c.Disk "write" c.Disk_write
  i_Disk_lengthen : ∃ fd dV, FunD K "lengthen" "Disk.lengthen" s_Disk_lengthen dV c.Disk_lengthen fd ∧ HasB K fd ["self", "name", "text"] []
  me_Disk_lengthen : Meth K c.Disk "lengthen" c.Disk_lengthen
  i_Disk_take_off : ∃ fd dV, FunD K "take_off" "Disk.take_off" s_Disk_take_off dV c.Disk_take_off fd ∧ HasB K fd ["self", "name"] []
  me_Disk_take_off : Meth K c.Disk "take_off" c.Disk_take_off
  i_Disk_add_behind : ∃ fd dV, FunD K "add_behind" "Disk.add_behind" s_Disk_add_behind dV c.Disk_add_behind fd ∧ HasB K fd ["self", "name", "text"] []
  me_Disk_add_behind : Meth K c.Disk "add_behind" c.Disk_add_behind
  i_Disk_lengthen_torn : ∃ fd dV, FunD K "lengthen_torn" "Disk.lengthen_torn" s_Disk_lengthen_torn dV c.Disk_lengthen_torn fd ∧ HasB K fd ["self", "name", "text"] []
  me_Disk_lengthen_torn : Meth K c.Disk "lengthen_torn" c.Disk_lengthen_torn
  i_Disk_is_at_the_stop : ∃ fd dV, FunD K "is_at_the_stop" "Disk.is_at_the_stop" s_Disk_is_at_the_stop dV c.Disk_is_at_the_stop fd ∧ HasB K fd ["self"] []
  me_Disk_is_at_the_stop : Meth K c.Disk "is_at_the_stop" c.Disk_is_at_the_stop
  i_Disk_refuse_at_the_stop : ∃ fd dV, FunD K "refuse_at_the_stop" "Disk.refuse_at_the_stop" s_Disk_refuse_at_the_stop dV c.Disk_refuse_at_the_stop fd ∧ HasB K fd ["self"] []
  me_Disk_refuse_at_the_stop : Meth K c.Disk "refuse_at_the_stop" c.Disk_refuse_at_the_stop
  i_Disk_refuse_what_is_not_there : ∃ fd dV, FunD K "refuse_what_is_not_there" "Disk.refuse_what_is_not_there" s_Disk_refuse_what_is_not_there dV c.Disk_refuse_what_is_not_there fd ∧ HasB K fd ["self", "name"] []
  me_Disk_refuse_what_is_not_there : Meth K c.Disk "refuse_what_is_not_there" c.Disk_refuse_what_is_not_there
  c_Disk : Cls K c.Disk
structure Txt (K : PySem.W.Frag) (mg : Str → Option Value) : Prop where
  f__law_whole : HasFn K mg "_law_whole" s__law_whole ["_law_found"]
  f__law_cell_at : HasFn K mg "_law_cell_at" s__law_cell_at ["_law_script", "_law_k"]
  f__law_mixed : HasFn K mg "_law_mixed" s__law_mixed ["_law_cell", "_law_k"]
  f__law_held : HasFn K mg "_law_held" s__law_held ["_law_held_here"]
  f__law_name : HasFn K mg "_law_name" s__law_name ["_law_pick"]
  f__law_text : HasFn K mg "_law_text" s__law_text ["_law_cell", "_law_k"]
  f__law_files : HasFn K mg "_law_files" s__law_files ["_law_cell"]
  f__law_step : HasFn K mg "_law_step" s__law_step ["_law_disk", "_law_kind", "_law_name_here", "_law_text_here"]
  f__law_told : HasFn K mg "_law_told" s__law_told ["_law_disk", "_law_name_here"]
  f__law_way : HasFn K mg "_law_way" s__law_way ["_law_disk", "_law_kept", "_law_count", "_law_way_here", "_law_name_here", "_law_held_here"]
  f__law_looked : HasFn K mg "_law_looked" s__law_looked ["_law_disk", "_law_kept", "_law_count", "_law_pick", "_law_held_here"]
  b_bool : mg "bool" = none
  b_dict : mg "dict" = none
  b_e : mg "e" = none
  b_int : mg "int" = none
  b_isinstance : mg "isinstance" = none
  b_len : mg "len" = none
  b_list : mg "list" = none
  b_min : mg "min" = none
  b_range : mg "range" = none
  b_sorted : mg "sorted" = none
  b_str : mg "str" = none
  cl : ∃ c : Cs, Cl K mg c
local macro_rules | `(tactic| lcg_src) => `(tactic| first | with_reducible assumption | ((with_reducible refine' Same.get ?s ?e); (case s => with_reducible assumption); (case e => lcg_src)))
local macro_rules | `(tactic| lcg_sub) => `(tactic| first | with_reducible assumption | with_reducible exact Same.refl _ | ((with_reducible refine' Same.tr ?s ?e); (case s => with_reducible assumption); (case e => lcg_sub)))
local macro_rules | `(tactic| keq_rows) => `(tactic| first | with_reducible assumption | with_reducible exact Rep.int' | with_reducible exact Rep.str' | with_reducible exact Rep.bl' | with_reducible exact Rep.non' | ((with_reducible refine' Rep.same ?s ?e); (case s => with_reducible assumption); (case e => keq_rows)) | ((with_reducible refine' Rep.mkT ?c ?_); (case c => lcg_src); keq_hits) | ((with_reducible refine' Rep.mkL ?c ?_); (case c => lcg_src); keq_hits) | ((with_reducible refine' Rep.mkD ?c); (case c => lcg_src)))
local macro_rules | `(tactic| keq_hits) => `(tactic| first | with_reducible assumption | with_reducible exact Reps.nil' | ((with_reducible refine' Reps.cons' ?c ?_); (case c => keq_rows); keq_hits) | ((with_reducible refine' Reps.same ?s ?e); (case s => with_reducible assumption); (case e => keq_hits)))
local macro_rules | `(tactic| tlg_ne) => `(tactic| first | with_reducible assumption | ((with_reducible refine' SqL.of ?c); (case c => lcg_src)) | ((with_reducible refine' SqT.of ?c); (case c => lcg_src)) | ((with_reducible refine' SqL.same ?s ?e); (case s => with_reducible assumption); (case e => tlg_ne)))
local macro_rules | `(tactic| kpc_turns) => `(tactic| first | decide | omega | (constructor <;> first | decide | omega))
local macro_rules | `(tactic| kas_types) => `(tactic| simp only [cxK, cxK', compK, triedK, heldXK, start_cc, start_cn, start_nn])
local macro_rules | `(tactic| kpt_turns) => `(tactic| first
  | refine rd_go ?_
  | ((with_reducible refine' rd_mod ?c ?_); (case c => kpc_turns))
  | ((with_reducible refine' rd_fdiv ?c ?_); (case c => kpc_turns))
  | ((with_reducible refine' rd_mulI ?c ?_); (case c => first | exact .inl (by kpc_turns) | exact .inr (by kpc_turns)))
  | ((with_reducible refine' rd_mkT ?c ?_); (case c => (simp only [List.length_cons, List.length_nil]; decide)); intro _ _ _ _)
  | ((with_reducible refine' rd_mkL ?c ?_); (case c => (simp only [List.length_cons, List.length_nil]; decide)); intro _ _ _ _ _)
  | ((with_reducible refine' rd_ixT ?c ?d ?_); (case c => tlg_ne); (case d => exact rfl))
  | ((with_reducible refine' rd_ixL ?c ?d ?_); (case c => tlg_ne); (case d => exact rfl))
  | ((with_reducible refine' rd_isT ?c ?_); (case c => lcg_src))
  | ((with_reducible refine' rd_isL ?c ?_); (case c => lcg_src))
  | ((with_reducible refine' rd_isD ?c ?_); (case c => lcg_src))
  | ((with_reducible refine' rd_lenT ?c ?_); (case c => tlg_ne))
  | ((with_reducible refine' rd_lenL ?c ?_); (case c => tlg_ne))
  | ((with_reducible refine' rd_lenS ?c ?_); (case c => first | assumption | (show _ ≤ 16777216; decide) | omega))
  | ((with_reducible refine' rd_slT ?c ?d ?_); (case c => tlg_ne); (case d => simp [HT.sIx]; done); intro _ _ _ h; (simp [cutV, HT.sIx] at h))
  | ((with_reducible refine' rd_bmL ?c ?_); (case c => lcg_src))
  | ((with_reducible refine' rd_shr ?c ?_); (case c => omega))
  | ((with_reducible refine' rd_dnew ?_); intro _ _ _ _ _)
  | ((with_reducible refine' rd_pow ?c ?_); (case c => kpc_turns))
  | ((with_reducible refine' rd_exL ?c ?_); (case c => tlg_ne))
  | ((with_reducible refine' rd_exT ?c ?_); (case c => tlg_ne))
  | ((with_reducible refine' rd_exr1 ?c ?_); (case c => kpc_turns))
  | ((with_reducible refine' rd_exr2 ?c ?_); (case c => refine ⟨?_, ?_, ?_, ?_⟩ <;> first | decide | omega))
  | ((with_reducible refine' rd_gTup ?c ?d ?_); (case c => tlg_ne); (case d => exact rfl))
  | ((with_reducible refine' rd_listL ?c ?_); (case c => tlg_ne); intro _ _ _ _ _)
  | ((with_reducible refine' rd_listT ?c ?_); (case c => tlg_ne); intro _ _ _ _ _)
  | ((with_reducible refine' rd_addL ?c ?d ?e ?_); (case c => lcg_src); (case d => lcg_src); (case e => first | (simp only [List.length_cons, List.length_nil]; decide) | (simp only [List.length_cons, List.length_nil, List.length_append, sizeLine_eq]; omega)); intro _ _ _ _ h; (try simp only [List.cons_append, List.nil_append] at h))
  | ((with_reducible refine' rd_addT ?c ?d ?f ?e ?_); (case c => lcg_src); (case d => lcg_src); (case f => (intro h; cases h)); (case e => first | (simp only [List.length_cons, List.length_nil]; decide) | (simp only [List.length_cons, List.length_nil, List.length_append, sizeLine_eq]; omega)); intro _ _ _ h; (try simp only [List.cons_append, List.nil_append] at h)))
local macro_rules | `(tactic| lcg_off) => `(tactic| repeat kpt_turns)
local macro_rules | `(tactic| kaf_pre) => `(tactic| ((with_reducible refine' rd_menu ?c ?a ?b ?_); (case c => tlg_ne); (case a => first | exact Int.emod_nonneg _ (by decide) | omega); (case b => first | exact Int.emod_lt_of_pos _ (by decide) | (simp only [List.length_cons, List.length_nil]; omega))))
local macro_rules | `(tactic| kaf_suf) => `(tactic| ((with_reducible refine' rd_pick ?c ?a ?b ?_); (case c => tlg_ne); (case a => first | exact Int.emod_nonneg _ (by decide) | omega); (case b => first | exact Int.emod_lt_of_pos _ (by decide) | (simp only [List.length_cons, List.length_nil]; omega))))
section
variable {P : Program} {w : World} {K : PySem.W.Frag} {mg : Str → Option Value} {base : Heap}
theorem Cl.u_TierError {c : Cs} (Z : Cl K mg c) : ExU K mg "TierError" c.TierError := ⟨Z.m_TierError, Z.ur_TierError, Z.uf_TierError, Z.ug_TierError⟩
theorem Cl.xf_Stopped {c : Cs} (Z : Cl K mg c) : ExF K c.Stopped "step" := exF_of Z.fd_Stopped Z.hm_Stopped Z.hs_Stopped Z.hf_Stopped
theorem sc_Stopped_init : FnScope ["self", "step"] ["self", "step"] (defScope s_Stopped_init) := ⟨rfl, rfl, rfl, by decide +kernel, rfl, by decide +kernel, by decide +kernel⟩
theorem ok_Stopped_init (T : Txt K mg) {c : Cs} (Z : Cl K mg c) {fd : FuncData} (F : Fun K "__init__" "Stopped.__init__" s_Stopped_init c.Stopped_init fd) : FnOk P w K mg base CX0 (1) c.Stopped_init fd ["self", "step"] (spInit c.Stopped "step") := by
  refine F.okB sc_Stopped_init (fun vs H Q E h => ?_) (fun cdv A outer s H vs Q E hr h => ?_)
  · obtain ⟨ea, v, rfl, _⟩ := h
    rfl
  · obtain ⟨ea, v, rfl, he, q⟩ := h
    refine ⟨_, (bss_cons (bs_expr (be_up Z.u_TierError (ba_c (bv 0) (ba_c (bv 1) ba_nil rfl) rfl)))
    (bss_one (bs_xfld (bv 0) (bv 1)))), ?_⟩
    kas_types
    lcg_off
    refine ⟨ea, c.Stopped, none, v, c.Stopped_init, rfl, he, Z.xi_Stopped, ?_⟩
    lcg_off
    refine ⟨ea, c.Stopped, rfl, he, Z.xf_Stopped, fun dx h1 h2 => ?_⟩
    exact q dx h1 h2
theorem Cl.xf_NoFile {c : Cs} (Z : Cl K mg c) : ExF K c.NoFile "name" := exF_of Z.fd_NoFile Z.hm_NoFile Z.hs_NoFile Z.hf_NoFile
theorem sc_NoFile_init : FnScope ["self", "name"] ["self", "name"] (defScope s_NoFile_init) := ⟨rfl, rfl, rfl, by decide +kernel, rfl, by decide +kernel, by decide +kernel⟩
theorem ok_NoFile_init (T : Txt K mg) {c : Cs} (Z : Cl K mg c) {fd : FuncData} (F : Fun K "__init__" "NoFile.__init__" s_NoFile_init c.NoFile_init fd) : FnOk P w K mg base CX0 (1) c.NoFile_init fd ["self", "name"] (spInit c.NoFile "name") := by
  refine F.okB sc_NoFile_init (fun vs H Q E h => ?_) (fun cdv A outer s H vs Q E hr h => ?_)
  · obtain ⟨ea, v, rfl, _⟩ := h
    rfl
  · obtain ⟨ea, v, rfl, he, q⟩ := h
    refine ⟨_, (bss_cons (bs_expr (be_up Z.u_TierError (ba_c (bv 0) (ba_c (bv 1) ba_nil rfl) rfl)))
    (bss_one (bs_xfld (bv 0) (bv 1)))), ?_⟩
    kas_types
    lcg_off
    refine ⟨ea, c.NoFile, none, v, c.NoFile_init, rfl, he, Z.xi_NoFile, ?_⟩
    lcg_off
    refine ⟨ea, c.NoFile, rfl, he, Z.xf_NoFile, fun dx h1 h2 => ?_⟩
    exact q dx h1 h2
end
end T50



set_option Elab.async false
set_option linter.all false
set_option maxRecDepth 100000
set_option maxHeartbeats 4000000
namespace T50
open PySem L2

local macro_rules | `(tactic| lcg_src) => `(tactic| first | with_reducible assumption | ((with_reducible refine' Same.get ?s ?e); (case s => with_reducible assumption); (case e => lcg_src)))
local macro_rules | `(tactic| lcg_sub) => `(tactic| first | with_reducible assumption | with_reducible exact Same.refl _ | ((with_reducible refine' Same.tr ?s ?e); (case s => with_reducible assumption); (case e => lcg_sub)))
local macro_rules | `(tactic| keq_rows) => `(tactic| first | with_reducible assumption | with_reducible exact Rep.int' | with_reducible exact Rep.str' | with_reducible exact Rep.bl' | with_reducible exact Rep.non' | ((with_reducible refine' Rep.same ?s ?e); (case s => with_reducible assumption); (case e => keq_rows)) | ((with_reducible refine' Rep.mkT ?c ?_); (case c => lcg_src); keq_hits) | ((with_reducible refine' Rep.mkL ?c ?_); (case c => lcg_src); keq_hits) | ((with_reducible refine' Rep.mkD ?c); (case c => lcg_src)))
local macro_rules | `(tactic| keq_hits) => `(tactic| first | with_reducible assumption | with_reducible exact Reps.nil' | ((with_reducible refine' Reps.cons' ?c ?_); (case c => keq_rows); keq_hits) | ((with_reducible refine' Reps.same ?s ?e); (case s => with_reducible assumption); (case e => keq_hits)))
local macro_rules | `(tactic| tlg_ne) => `(tactic| first | with_reducible assumption | ((with_reducible refine' SqL.of ?c); (case c => lcg_src)) | ((with_reducible refine' SqT.of ?c); (case c => lcg_src)) | ((with_reducible refine' SqL.same ?s ?e); (case s => with_reducible assumption); (case e => tlg_ne)))
local macro_rules | `(tactic| kpc_turns) => `(tactic| first | decide | omega | (constructor <;> first | decide | omega))
local macro_rules | `(tactic| kas_types) => `(tactic| simp only [cxK, cxK', compK, triedK, heldXK, start_cc, start_cn, start_nn])
local macro_rules | `(tactic| kpt_turns) => `(tactic| first
  | refine rd_go ?_
  | ((with_reducible refine' rd_mod ?c ?_); (case c => kpc_turns))
  | ((with_reducible refine' rd_fdiv ?c ?_); (case c => kpc_turns))
  | ((with_reducible refine' rd_mulI ?c ?_); (case c => first | exact .inl (by kpc_turns) | exact .inr (by kpc_turns)))
  | ((with_reducible refine' rd_mkT ?c ?_); (case c => (simp only [List.length_cons, List.length_nil]; decide)); intro _ _ _ _)
  | ((with_reducible refine' rd_mkL ?c ?_); (case c => (simp only [List.length_cons, List.length_nil]; decide)); intro _ _ _ _ _)
  | ((with_reducible refine' rd_ixT ?c ?d ?_); (case c => tlg_ne); (case d => exact rfl))
  | ((with_reducible refine' rd_ixL ?c ?d ?_); (case c => tlg_ne); (case d => exact rfl))
  | ((with_reducible refine' rd_isT ?c ?_); (case c => lcg_src))
  | ((with_reducible refine' rd_isL ?c ?_); (case c => lcg_src))
  | ((with_reducible refine' rd_isD ?c ?_); (case c => lcg_src))
  | ((with_reducible refine' rd_lenT ?c ?_); (case c => tlg_ne))
  | ((with_reducible refine' rd_lenL ?c ?_); (case c => tlg_ne))
  | ((with_reducible refine' rd_lenS ?c ?_); (case c => first | assumption | (show _ ≤ 16777216; decide) | omega))
  | ((with_reducible refine' rd_slT ?c ?d ?_); (case c => tlg_ne); (case d => simp [HT.sIx]; done); intro _ _ _ h; (simp [cutV, HT.sIx] at h))
  | ((with_reducible refine' rd_bmL ?c ?_); (case c => lcg_src))
  | ((with_reducible refine' rd_shr ?c ?_); (case c => omega))
  | ((with_reducible refine' rd_dnew ?_); intro _ _ _ _ _)
  | ((with_reducible refine' rd_pow ?c ?_); (case c => kpc_turns))
  | ((with_reducible refine' rd_exL ?c ?_); (case c => tlg_ne))
  | ((with_reducible refine' rd_exT ?c ?_); (case c => tlg_ne))
  | ((with_reducible refine' rd_exr1 ?c ?_); (case c => kpc_turns))
  | ((with_reducible refine' rd_exr2 ?c ?_); (case c => refine ⟨?_, ?_, ?_, ?_⟩ <;> first | decide | omega))
  | ((with_reducible refine' rd_gTup ?c ?d ?_); (case c => tlg_ne); (case d => exact rfl))
  | ((with_reducible refine' rd_listL ?c ?_); (case c => tlg_ne); intro _ _ _ _ _)
  | ((with_reducible refine' rd_listT ?c ?_); (case c => tlg_ne); intro _ _ _ _ _)
  | ((with_reducible refine' rd_addL ?c ?d ?e ?_); (case c => lcg_src); (case d => lcg_src); (case e => first | (simp only [List.length_cons, List.length_nil]; decide) | (simp only [List.length_cons, List.length_nil, List.length_append, sizeLine_eq]; omega)); intro _ _ _ _ h; (try simp only [List.cons_append, List.nil_append] at h))
  | ((with_reducible refine' rd_addT ?c ?d ?f ?e ?_); (case c => lcg_src); (case d => lcg_src); (case f => (intro h; cases h)); (case e => first | (simp only [List.length_cons, List.length_nil]; decide) | (simp only [List.length_cons, List.length_nil, List.length_append, sizeLine_eq]; omega)); intro _ _ _ h; (try simp only [List.cons_append, List.nil_append] at h)))
local macro_rules | `(tactic| lcg_off) => `(tactic| repeat kpt_turns)
local macro_rules | `(tactic| kaf_pre) => `(tactic| ((with_reducible refine' rd_menu ?c ?a ?b ?_); (case c => tlg_ne); (case a => first | exact Int.emod_nonneg _ (by decide) | omega); (case b => first | exact Int.emod_lt_of_pos _ (by decide) | (simp only [List.length_cons, List.length_nil]; omega))))
local macro_rules | `(tactic| kaf_suf) => `(tactic| ((with_reducible refine' rd_pick ?c ?a ?b ?_); (case c => tlg_ne); (case a => first | exact Int.emod_nonneg _ (by decide) | omega); (case b => first | exact Int.emod_lt_of_pos _ (by decide) | (simp only [List.length_cons, List.length_nil]; omega))))
/-! ### a disk on the abstract heap -/
structure DS where
  m : List (Key × V)
  done : Nat
  stop : Option Nat
  torn : Nat
  ref : Bool
def stopV : Option Nat → V
  | none => .non
  | some n => .int (n : Nat)
def fsD (t : Addr) (d : DS) : List (Str × V) := [("texts", .ref t), ("done", .int (d.done : Nat)), ("stops_behind", stopV d.stop), ("torn", .int (d.torn : Nat)), ("refused", .bl d.ref)]
structure At (c : Cs) (H : Hp) (a t : Addr) (d : DS) : Prop where
  ins : ∃ dx, H a = some (.ins c.Disk dx (fsD t d))
  txt : H t = some (.dK d.m)
def Chg (a t : Addr) (H H' : Hp) : Prop := ∀ b o, b ≠ a → b ≠ t → H b = some o → H' b = some o
section
variable {c : Cs} {H H' H'' : Hp} {a t : Addr} {d d' : DS}
theorem At.ne (h : At c H a t d) : a ≠ t := by
  intro e
  obtain ⟨⟨dx, h1⟩, h2⟩ := h
  rw [e, h2] at h1
  cases h1
theorem At.same (h : At c H a t d) (s : Same H H') : At c H' a t d := ⟨h.ins.imp fun _ e => s _ _ e, s _ _ h.txt⟩
theorem Chg.refl : Chg a t H H := fun _ _ _ _ h => h
theorem Chg.trans (h1 : Chg a t H H') (h2 : Chg a t H' H'') : Chg a t H H'' := fun b o n1 n2 e => h2 b o n1 n2 (h1 b o n1 n2 e)
theorem Chg.of (s : Same H H') : Chg a t H H' := fun b o _ _ e => s b o e
theorem lk1 : (fsD t d).lookup ("texts" : Str) = some (.ref t) := by rfl
theorem lk2 : (fsD t d).lookup ("done" : Str) = some (.int (d.done : Nat)) := by rfl
theorem lk3 : (fsD t d).lookup ("stops_behind" : Str) = some (stopV d.stop) := by rfl
theorem lk4 : (fsD t d).lookup ("torn" : Str) = some (.int (d.torn : Nat)) := by rfl
theorem lk5 : (fsD t d).lookup ("refused" : Str) = some (.bl d.ref) := by rfl
theorem pf2 {n : Nat} : putF "done" (.int (n : Nat)) (fsD t d) = fsD t { d with done := n } := by rfl
theorem pf5 {b : Bool} : putF "refused" (.bl b) (fsD t d) = fsD t { d with ref := b } := by rfl
theorem rd_fld {K : PySem.W.Frag} {mg : Str → Option Value} (Z : Cl K mg c) (hA : At c H a t d) {fl : Str} {v : V} (hn : PySem.W.findIn K (.ref c.Disk) fl = some none) (hl : (fsD t d).lookup fl = some v) {F : V → Prop} (q : F v) :
    ∃ a' C dx fs v', V.ref a = .ref a' ∧ H a' = some (.ins C dx fs) ∧ Cls K C ∧ NoAttr K C fl ∧ fs.lookup fl = some v' ∧ F v' := by
  obtain ⟨⟨dx, ha⟩, _⟩ := hA
  exact ⟨a, _, dx, _, v, rfl, ha, Z.c_Disk, hn, hl, q⟩
theorem rd_put {K : PySem.W.Frag} {mg : Str → Option Value} (Z : Cl K mg c) (hA : At c H a t d) {fl : Str} {y : V} (hn : PySem.W.findIn K (.ref c.Disk) fl = some none) (hp : putF fl y (fsD t d) = fsD t d') (hm : d'.m = d.m) {F : Hp → Prop} (q : ∀ H', At c H' a t d' → Chg a t H H' → F H') :
    ∃ a' C dx fs, V.ref a = .ref a' ∧ H a' = some (.ins C dx fs) ∧ Cls K C ∧ NoAttr K C fl ∧ fs.length < 1000 ∧ F (upd H a' (.ins C dx (putF fl y fs))) := by
  have hne := hA.ne
  obtain ⟨⟨dx, ha⟩, ht⟩ := hA
  refine ⟨a, _, dx, _, rfl, ha, Z.c_Disk, hn, by show 5 < 1000; decide, q _ ⟨⟨dx, by rw [upd_same, hp]⟩, ?_⟩ ?_⟩
  · rw [upd_ne (Ne.symm hne), hm]; exact ht
  · intro b o n1 _ e
    rw [upd_ne n1]; exact e
theorem rd_meth (hA : At c H a t d) {mt : Str} (hl : (fsD t d).lookup mt = none) {G : Prop} (q : G) : ∃ a' dx fs, V.ref a = .ref a' ∧ H a' = some (.ins c.Disk dx fs) ∧ fs.lookup mt = none ∧ G := by
  obtain ⟨⟨dx, ha⟩, _⟩ := hA
  exact ⟨a, dx, _, rfl, ha, hl, q⟩
end
/-! ### what a file's text becomes -/
def txtOf (m : List (Key × V)) (n : Str) : Str := match valV m (.inr n) with
  | some (.str z) => z
  | _ => Str.ofString ""
def addM (m : List (Key × V)) (n x : Str) : List (Key × V) := putK m (.inr n) (.str (txtOf m n ++ x))
def torM (m : List (Key × V)) (n x : Str) : List (Key × V) := if x = Str.ofString "" then m else addM m n x
def okM (s : Nat) (m : List (Key × V)) : Prop := m.length ≤ s ∧ ∀ q ∈ m, ∃ z, q.2 = .str z ∧ z.length ≤ 100 * s
theorem okM.txt {s : Nat} {m : List (Key × V)} (h : okM s m) : txtK m := fun q hq => (h.2 q hq).imp fun _ e => e.1
theorem okM.mono {s s' : Nat} {m : List (Key × V)} (h : okM s m) (hs : s ≤ s') : okM s' m := ⟨by have := h.1; omega, fun q hq => by
  obtain ⟨z, e, l⟩ := h.2 q hq
  exact ⟨z, e, by omega⟩⟩
theorem okM.at {s : Nat} {m : List (Key × V)} (h : okM s m) {k : Key} {v : V} (e : valV m k = some v) : ∃ z, v = .str z ∧ z.length ≤ 100 * s := by
  unfold valV at e
  obtain ⟨q, hq, rfl⟩ := Option.map_eq_some_iff.mp e
  exact h.2 q (List.mem_of_find?_eq_some hq)
theorem okM.get {s : Nat} {m : List (Key × V)} (h : okM s m) (n : Str) : (valV m (.inr n)).getD (.str (Str.ofString "")) = .str (txtOf m n) ∧ (txtOf m n).length ≤ 100 * s := by
  unfold txtOf
  cases e : valV m (.inr n) with
  | none => exact ⟨rfl, by rw [show (Str.ofString "").length = 0 by decide +kernel]; omega⟩
  | some v =>
    obtain ⟨z, rfl, l⟩ := h.at e
    exact ⟨rfl, l⟩
theorem okM.put {s : Nat} {m : List (Key × V)} (h : okM s m) (k : Key) {x : Str} (hx : x.length ≤ 100 * (s + 1)) : okM (s + 1) (putK m k (.str x)) := by
  obtain ⟨h1, h2⟩ := h
  unfold putK
  split
  · refine ⟨by rw [List.length_map]; omega, fun q hq => ?_⟩
    obtain ⟨r, hr, rfl⟩ := List.mem_map.mp hq
    by_cases e : r.1 = k
    · rw [if_pos e]; exact ⟨x, rfl, hx⟩
    · rw [if_neg e]
      obtain ⟨z, ez, l⟩ := h2 r hr
      exact ⟨z, ez, by omega⟩
  · refine ⟨by rw [List.length_append]; simp; omega, fun q hq => ?_⟩
    rcases List.mem_append.mp hq with hq | hq
    · obtain ⟨z, ez, l⟩ := h2 q hq
      exact ⟨z, ez, by omega⟩
    · obtain rfl := List.mem_singleton.mp hq
      exact ⟨x, rfl, hx⟩
theorem la (x y : Str) : (x ++ y).length = x.length + y.length := by rw [len_list, app_list, List.length_append, ← len_list, ← len_list]
theorem okM.add {s : Nat} {m : List (Key × V)} (h : okM s m) (n : Str) {x : Str} (hx : x.length ≤ 100) : okM (s + 1) (addM m n x) := by
  refine h.put _ ?_
  rw [la]
  have := (h.get n).2
  omega
theorem okM.drop {s : Nat} {m : List (Key × V)} (h : okM s m) (k : Key) : okM s (dropK m k) := ⟨by have := dropK_le m k; have := h.1; omega, fun q hq => h.2 q ((List.mem_filter.mp hq).1)⟩
section
variable {P : Program} {w : World} {K : PySem.W.Frag} {mg : Str → Option Value} {base : Heap}
/-! ### the disk's own methods -/
def atS (d : DS) : Bool := match d.stop with
  | none => false
  | some n => decide (n ≤ d.done)
def spAt (c : Cs) : Sp := fun vs H Q _ => ∃ a t d, vs = [.ref a] ∧ At c H a t d ∧ Q (.bl (atS d)) H
theorem sc_Disk_is_at_the_stop : FnScope ["self"] ["self"] (defScope s_Disk_is_at_the_stop) := ⟨rfl, rfl, rfl, by decide +kernel, rfl, by decide +kernel, by decide +kernel⟩
theorem ok_Disk_is_at_the_stop (T : Txt K mg) {c : Cs} (Z : Cl K mg c) {fd : FuncData} {dV : Value} (F : FunD K "is_at_the_stop" "Disk.is_at_the_stop" s_Disk_is_at_the_stop dV c.Disk_is_at_the_stop fd) : FnOk P w K mg base CX0 (1) c.Disk_is_at_the_stop fd ["self"] (spAt c) := by
  refine F.okB sc_Disk_is_at_the_stop (fun vs H Q E h => ?_) (fun cdv A outer s H vs Q E hr h => ?_)
  · obtain ⟨a, t, d, rfl, _⟩ := h
    rfl
  · obtain ⟨a, t, d, rfl, hA, q⟩ := h
    refine ⟨_, (bss_one (bs_ret (b_and (b_cmp o_isnt (be_fld (bv 0)) b_non (nomark _)) (b_one (b_cmp op_ge (be_fld (bv 0)) (be_fld (bv 0)) (nomark _)))))), ?_⟩
    kas_types
    lcg_off
    refine rd_fld Z hA Z.na3 lk3 ?_
    lcg_off
    cases hs : d.stop with
    | none =>
      lcg_off
      have e : atS d = false := by unfold atS; rw [hs]
      rw [e] at q
      exact q
    | some n =>
      lcg_off
      rw [if_pos (by simp [stopV])]
      lcg_off
      refine rd_fld Z hA Z.na2 lk2 ?_
      lcg_off
      refine rd_fld Z hA Z.na3 lk3 ?_
      rw [hs]
      simp only [stopV]
      lcg_off
      have e : atS d = decide (((n : Nat) : Int) ≤ ((d.done : Nat) : Int)) := by
        unfold atS; rw [hs]
        show decide (n ≤ d.done) = _
        simp
      rw [e] at q
      exact q
theorem at_use {c : Cs} {H : Hp} {Q : VK} {E : XK} {a t : Addr} {d : DS} (h : At c H a t d) (q : Q (.bl (atS d)) H) : spAt c [.ref a] H Q E := ⟨a, t, d, rfl, h, q⟩
def spRef (c : Cs) : Sp := fun vs H Q E => ∃ a t d, vs = [.ref a] ∧ At c H a t d ∧ (atS d = false → Q .non H) ∧ (atS d = true → ∀ dx H', At c H' a t { d with ref := true } → Chg a t H H' → H' dx = some (.xd [("step", .int ((d.done : Nat) : Int))]) → E (.ref c.Stopped) (some dx) H')
theorem sc_Disk_refuse_at_the_stop : FnScope ["self"] ["self"] (defScope s_Disk_refuse_at_the_stop) := ⟨rfl, rfl, rfl, by decide +kernel, rfl, by decide +kernel, by decide +kernel⟩
theorem ok_Disk_refuse_at_the_stop (T : Txt K mg) {c : Cs} (Z : Cl K mg c) {fd : FuncData} {dV : Value} (F : FunD K "refuse_at_the_stop" "Disk.refuse_at_the_stop" s_Disk_refuse_at_the_stop dV c.Disk_refuse_at_the_stop fd) : FnOk P w K mg base (CXE P w) (3) c.Disk_refuse_at_the_stop fd ["self"] (spRef c) := by
  obtain ⟨_, _, F_Disk_is_at_the_stop, ⟨_, hv0_Disk_is_at_the_stop, hb0_Disk_is_at_the_stop⟩⟩ := Z.i_Disk_is_at_the_stop
  have G_Disk_is_at_the_stop := ok_Disk_is_at_the_stop (P := P) (w := w) (base := base) T Z F_Disk_is_at_the_stop
  obtain ⟨_, FI_Stopped, bI_Stopped⟩ := Z.i_Stopped
  have GI_Stopped := ok_Stopped_init (P := P) (w := w) (base := base) T Z FI_Stopped
  refine F.okE sc_Disk_refuse_at_the_stop (fun vs H Q E h => ?_) (fun cdv A outer s H vs Q E hr h => ?_)
  · obtain ⟨a, t, d, rfl, _⟩ := h
    rfl
  · obtain ⟨a, t, d, rfl, hA, q, qe⟩ := h
    refine ⟨_, (bss_one (bs_if (bt_val (b_m0 Z.c_Disk Z.me_Disk_is_at_the_stop G_Disk_is_at_the_stop pass0 hb0_Disk_is_at_the_stop hv0_Disk_is_at_the_stop (hr.mono (by first | decide | omega)) (bv 0)) (fun _ => rfl))
      (bss_cons (bs_fld (bv 0) b_bl)
    (bss_one (bs_raiseI throws_of rfl ⟨Z.m_Stopped, Z.xi_Stopped⟩ GI_Stopped (hr.mono (by first | decide | omega)) bI_Stopped (ba_c (be_fld (bv 0)) ba_nil rfl))))
      bss_nil)), ?_⟩
    kas_types
    lcg_off
    refine rd_meth hA rfl ?_
    lcg_off
    refine at_use hA ?_
    cases hs : atS d with
    | false =>
      lcg_off
      exact q hs
    | true =>
      lcg_off
      refine rd_put Z hA Z.na5 (pf5 (b := true)) rfl (fun H1 hA1 c1 => ?_)
      lcg_off
      refine rd_fld Z hA1 Z.na2 lk2 ?_
      lcg_off
      exact rd_raiseI (fun dx H2 s2 n2 h2 => qe hs dx H2 (hA1.same s2) (c1.trans (.of s2)) h2)
theorem ref_use {c : Cs} {H : Hp} {Q : VK} {E : XK} {a t : Addr} {d : DS} (h : At c H a t d) (q : atS d = false → Q .non H) (qe : atS d = true → ∀ dx H', At c H' a t { d with ref := true } → Chg a t H H' → H' dx = some (.xd [("step", .int ((d.done : Nat) : Int))]) → E (.ref c.Stopped) (some dx) H') : spRef c [.ref a] H Q E := ⟨a, t, d, rfl, h, q, qe⟩
def spHas (c : Cs) : Sp := fun vs H Q _ => ∃ a t d n, vs = [.ref a, .str n] ∧ At c H a t d ∧ Q (.bl (valV d.m (.inr n)).isSome) H
theorem sc_Disk_has : FnScope ["self", "name"] ["self", "name"] (defScope s_Disk_has) := ⟨rfl, rfl, rfl, by decide +kernel, rfl, by decide +kernel, by decide +kernel⟩
theorem ok_Disk_has (T : Txt K mg) {c : Cs} (Z : Cl K mg c) {fd : FuncData} {dV : Value} (F : FunD K "has" "Disk.has" s_Disk_has dV c.Disk_has fd) : FnOk P w K mg base CX0 (1) c.Disk_has fd ["self", "name"] (spHas c) := by
  refine F.okB sc_Disk_has (fun vs H Q E h => ?_) (fun cdv A outer s H vs Q E hr h => ?_)
  · obtain ⟨a, t, d, n, rfl, _⟩ := h
    rfl
  · obtain ⟨a, t, d, n, rfl, hA, q⟩ := h
    refine ⟨_, (bss_one (bs_ret (b_cmp (op_inK (room100 hr)) (bv 1) (be_fld (bv 0)) rfl))), ?_⟩
    kas_types
    lcg_off
    refine rd_fld Z hA Z.na1 lk1 ?_
    lcg_off
    exact rd_inK hA.txt q
theorem has_use {c : Cs} {H : Hp} {Q : VK} {E : XK} {a t : Addr} {d : DS} {n : Str} (h : At c H a t d) (q : Q (.bl (valV d.m (.inr n)).isSome) H) : spHas c [.ref a, .str n] H Q E := ⟨a, t, d, n, rfl, h, q⟩

def spThereE (c : Cs) : Sp := fun vs H Q E => ∃ a t d n, vs = [.ref a, .str n] ∧ At c H a t d ∧ ((valV d.m (.inr n)).isSome = true → Q .non H) ∧ ((valV d.m (.inr n)).isSome = false → ∀ dx H', Same H H' → H' dx = some (.xd [("name", .str n)]) → E (.ref c.NoFile) (some dx) H')
theorem sc_Disk_refuse_what_is_not_there : FnScope ["self", "name"] ["self", "name"] (defScope s_Disk_refuse_what_is_not_there) := ⟨rfl, rfl, rfl, by decide +kernel, rfl, by decide +kernel, by decide +kernel⟩
theorem ok_Disk_refuse_what_is_not_there (T : Txt K mg) {c : Cs} (Z : Cl K mg c) {fd : FuncData} {dV : Value} (F : FunD K "refuse_what_is_not_there" "Disk.refuse_what_is_not_there" s_Disk_refuse_what_is_not_there dV c.Disk_refuse_what_is_not_there fd) : FnOk P w K mg base (CXE P w) (3) c.Disk_refuse_what_is_not_there fd ["self", "name"] (spThereE c) := by
  obtain ⟨_, _, F_Disk_has, ⟨_, hv0_Disk_has, hb0_Disk_has⟩⟩ := Z.i_Disk_has
  have G_Disk_has := ok_Disk_has (P := P) (w := w) (base := base) T Z F_Disk_has
  obtain ⟨_, FI_NoFile, bI_NoFile⟩ := Z.i_NoFile
  have GI_NoFile := ok_NoFile_init (P := P) (w := w) (base := base) T Z FI_NoFile
  refine F.okE sc_Disk_refuse_what_is_not_there (fun vs H Q E h => ?_) (fun cdv A outer s H vs Q E hr h => ?_)
  · obtain ⟨a, t, d, n, rfl, _⟩ := h
    rfl
  · obtain ⟨a, t, d, n, rfl, hA, q, qe⟩ := h
    refine ⟨_, (bss_one (bs_if (bt_not (bt_val (b_m Z.c_Disk Z.me_Disk_has G_Disk_has pass0 hb0_Disk_has hv0_Disk_has (hr.mono (by first | decide | omega)) (bv 0) (ba_c (bv 1) ba_nil rfl)) (fun _ => rfl)))
      (bss_one (bs_raiseI throws_of rfl ⟨Z.m_NoFile, Z.xi_NoFile⟩ GI_NoFile (hr.mono (by first | decide | omega)) bI_NoFile (ba_c (bv 1) ba_nil rfl)))
      bss_nil)), ?_⟩
    kas_types
    lcg_off
    refine rd_meth hA rfl ?_
    lcg_off
    refine has_use hA ?_
    cases hn : (valV d.m (.inr n)).isSome with
    | true =>
      lcg_off
      exact q hn
    | false =>
      lcg_off
      exact rd_raiseI (fun dx H2 s2 n2 h2 => qe hn dx H2 s2 h2)
theorem thereE_use {c : Cs} {H : Hp} {Q : VK} {E : XK} {a t : Addr} {d : DS} {n : Str} (h : At c H a t d) (q : (valV d.m (.inr n)).isSome = true → Q .non H) (qe : (valV d.m (.inr n)).isSome = false → ∀ dx H', Same H H' → H' dx = some (.xd [("name", .str n)]) → E (.ref c.NoFile) (some dx) H') : spThereE c [.ref a, .str n] H Q E := ⟨a, t, d, n, rfl, h, q, qe⟩

theorem At.put {c : Cs} {H : Hp} {a t : Addr} {d : DS} (h : At c H a t d) (m : List (Key × V)) : At c (upd H t (.dK m)) a t { d with m := m } ∧ Chg a t H (upd H t (.dK m)) := by
  have hne := h.ne
  obtain ⟨⟨dx, h1⟩, h2⟩ := h
  exact ⟨⟨⟨dx, by rw [upd_ne hne]; exact h1⟩, upd_same⟩, fun b o _ n2 e => by rw [upd_ne n2]; exact e⟩
def spAdd (c : Cs) : Sp := fun vs H Q _ => ∃ a t d n x s, vs = [.ref a, .str n, .str x] ∧ At c H a t d ∧ okM s d.m ∧ s ≤ 1000 ∧ x.length ≤ 100 ∧ ∀ H', At c H' a t { d with m := addM d.m n x } → Chg a t H H' → Q .non H'
theorem sc_Disk_add_behind : FnScope ["self", "name", "text"] ["self", "name", "text"] (defScope s_Disk_add_behind) := ⟨rfl, rfl, rfl, by decide +kernel, rfl, by decide +kernel, by decide +kernel⟩
theorem ok_Disk_add_behind (T : Txt K mg) {c : Cs} (Z : Cl K mg c) {fd : FuncData} {dV : Value} (F : FunD K "add_behind" "Disk.add_behind" s_Disk_add_behind dV c.Disk_add_behind fd) : FnOk P w K mg base CX0 (1) c.Disk_add_behind fd ["self", "name", "text"] (spAdd c) := by
  refine F.okB sc_Disk_add_behind (fun vs H Q E h => ?_) (fun cdv A outer s H vs Q E hr h => ?_)
  · obtain ⟨a, t, d, n, x, s, rfl, _⟩ := h
    rfl
  · obtain ⟨a, t, d, n, x, s, rfl, hA, hm, hs, hx, q⟩ := h
    refine ⟨_, (bss_one (bs_dput (hu_of hr) (be_fld (bv 0)) (bv 1) (b_op o_add (bm_dget2 (hu_of hr) (be_fld (bv 0)) (bv 1) b_str) (bv 2)))), ?_⟩
    kas_types
    have hg := hm.get n
    lcg_off
    refine rd_fld Z hA Z.na1 lk1 ?_
    lcg_off
    refine ⟨t, rfl, .inl ⟨_, .inl hA.txt⟩, ?_⟩
    lcg_off
    refine ⟨_, DGet.k (k := .inr n) hA.txt, ?_⟩
    rw [hg.1]
    lcg_off
    refine rd_addS (by rw [sizeLine_eq]; omega) ?_
    lcg_off
    refine rd_fld Z hA Z.na1 lk1 ?_
    lcg_off
    refine ⟨t, _, rfl, DPut.k (k := .inr n) hA.txt (by have := hm.1; rw [sizeLine_eq]; omega), ?_⟩
    lcg_off
    obtain ⟨hA1, c1⟩ := hA.put (addM d.m n x)
    exact q _ hA1 c1
theorem add_use {c : Cs} {H : Hp} {Q : VK} {E : XK} {a t : Addr} {d : DS} {n x : Str} (h : At c H a t d) {s : Nat} (hm : okM s d.m) (hs : s ≤ 1000) (hx : x.length ≤ 100) (q : ∀ H', At c H' a t { d with m := addM d.m n x } → Chg a t H H' → Q .non H') : spAdd c [.ref a, .str n, .str x] H Q E := ⟨a, t, d, n, x, s, rfl, h, hm, hs, hx, q⟩
def spTor (c : Cs) : Sp := fun vs H Q _ => ∃ a t d n x s, vs = [.ref a, .str n, .str x] ∧ At c H a t d ∧ okM s d.m ∧ s ≤ 1000 ∧ x.length ≤ 100 ∧ ∀ H', At c H' a t { d with m := torM d.m n x } → Chg a t H H' → Q .non H'
theorem sc_Disk_lengthen_torn : FnScope ["self", "name", "text"] ["self", "name", "text"] (defScope s_Disk_lengthen_torn) := ⟨rfl, rfl, rfl, by decide +kernel, rfl, by decide +kernel, by decide +kernel⟩
theorem ok_Disk_lengthen_torn (T : Txt K mg) {c : Cs} (Z : Cl K mg c) {fd : FuncData} {dV : Value} (F : FunD K "lengthen_torn" "Disk.lengthen_torn" s_Disk_lengthen_torn dV c.Disk_lengthen_torn fd) : FnOk P w K mg base CX0 (2) c.Disk_lengthen_torn fd ["self", "name", "text"] (spTor c) := by
  obtain ⟨_, _, F_Disk_add_behind, ⟨_, hv0_Disk_add_behind, hb0_Disk_add_behind⟩⟩ := Z.i_Disk_add_behind
  have G_Disk_add_behind := ok_Disk_add_behind (P := P) (w := w) (base := base) T Z F_Disk_add_behind
  refine F.okB sc_Disk_lengthen_torn (fun vs H Q E h => ?_) (fun cdv A outer s H vs Q E hr h => ?_)
  · obtain ⟨a, t, d, n, x, s, rfl, _⟩ := h
    rfl
  · obtain ⟨a, t, d, n, x, s, rfl, hA, hm, hs, hx, q⟩ := h
    refine ⟨_, (bss_one (bs_if (bt_cmp (o_neD (room100 hr)) (bv 2) b_str (nomark _))
      (bss_one (bs_expr (b_m Z.c_Disk Z.me_Disk_add_behind G_Disk_add_behind pass0 hb0_Disk_add_behind hv0_Disk_add_behind (hr.mono (by first | decide | omega)) (bv 0) (ba_c (bv 1) (ba_c (bv 2) ba_nil rfl) rfl))))
      bss_nil)), ?_⟩
    kas_types
    lcg_off
    unfold torM at q
    by_cases e : x = Str.ofString ""
    · rw [if_pos e] at q
      rw [if_neg (by simp [e])]
      lcg_off
      exact q H hA Chg.refl
    · rw [if_neg e] at q
      rw [if_pos (by simp [e])]
      lcg_off
      refine rd_meth hA rfl ?_
      lcg_off
      refine add_use hA hm hs hx (fun H1 hA1 c1 => ?_)
      lcg_off
      exact q H1 hA1 c1
theorem tor_use {c : Cs} {H : Hp} {Q : VK} {E : XK} {a t : Addr} {d : DS} {n x : Str} (h : At c H a t d) {s : Nat} (hm : okM s d.m) (hs : s ≤ 1000) (hx : x.length ≤ 100) (q : ∀ H', At c H' a t { d with m := torM d.m n x } → Chg a t H H' → Q .non H') : spTor c [.ref a, .str n, .str x] H Q E := ⟨a, t, d, n, x, s, rfl, h, hm, hs, hx, q⟩

end
end T50



set_option Elab.async false
set_option linter.all false
set_option maxRecDepth 100000
set_option maxHeartbeats 4000000
namespace T50
open PySem L2

local macro_rules | `(tactic| lcg_src) => `(tactic| first | with_reducible assumption | ((with_reducible refine' Same.get ?s ?e); (case s => with_reducible assumption); (case e => lcg_src)))
local macro_rules | `(tactic| lcg_sub) => `(tactic| first | with_reducible assumption | with_reducible exact Same.refl _ | ((with_reducible refine' Same.tr ?s ?e); (case s => with_reducible assumption); (case e => lcg_sub)))
local macro_rules | `(tactic| keq_rows) => `(tactic| first | with_reducible assumption | with_reducible exact Rep.int' | with_reducible exact Rep.str' | with_reducible exact Rep.bl' | with_reducible exact Rep.non' | ((with_reducible refine' Rep.same ?s ?e); (case s => with_reducible assumption); (case e => keq_rows)) | ((with_reducible refine' Rep.mkT ?c ?_); (case c => lcg_src); keq_hits) | ((with_reducible refine' Rep.mkL ?c ?_); (case c => lcg_src); keq_hits) | ((with_reducible refine' Rep.mkD ?c); (case c => lcg_src)))
local macro_rules | `(tactic| keq_hits) => `(tactic| first | with_reducible assumption | with_reducible exact Reps.nil' | ((with_reducible refine' Reps.cons' ?c ?_); (case c => keq_rows); keq_hits) | ((with_reducible refine' Reps.same ?s ?e); (case s => with_reducible assumption); (case e => keq_hits)))
local macro_rules | `(tactic| tlg_ne) => `(tactic| first | with_reducible assumption | ((with_reducible refine' SqL.of ?c); (case c => lcg_src)) | ((with_reducible refine' SqT.of ?c); (case c => lcg_src)) | ((with_reducible refine' SqL.same ?s ?e); (case s => with_reducible assumption); (case e => tlg_ne)))
local macro_rules | `(tactic| kpc_turns) => `(tactic| first | decide | omega | (constructor <;> first | decide | omega))
local macro_rules | `(tactic| kas_types) => `(tactic| simp only [cxK, cxK', compK, triedK, heldXK, start_cc, start_cn, start_nn])
local macro_rules | `(tactic| kpt_turns) => `(tactic| first
  | refine rd_go ?_
  | ((with_reducible refine' rd_mod ?c ?_); (case c => kpc_turns))
  | ((with_reducible refine' rd_fdiv ?c ?_); (case c => kpc_turns))
  | ((with_reducible refine' rd_mulI ?c ?_); (case c => first | exact .inl (by kpc_turns) | exact .inr (by kpc_turns)))
  | ((with_reducible refine' rd_mkT ?c ?_); (case c => (simp only [List.length_cons, List.length_nil]; decide)); intro _ _ _ _)
  | ((with_reducible refine' rd_mkL ?c ?_); (case c => (simp only [List.length_cons, List.length_nil]; decide)); intro _ _ _ _ _)
  | ((with_reducible refine' rd_ixT ?c ?d ?_); (case c => tlg_ne); (case d => exact rfl))
  | ((with_reducible refine' rd_ixL ?c ?d ?_); (case c => tlg_ne); (case d => exact rfl))
  | ((with_reducible refine' rd_isT ?c ?_); (case c => lcg_src))
  | ((with_reducible refine' rd_isL ?c ?_); (case c => lcg_src))
  | ((with_reducible refine' rd_isD ?c ?_); (case c => lcg_src))
  | ((with_reducible refine' rd_lenT ?c ?_); (case c => tlg_ne))
  | ((with_reducible refine' rd_lenL ?c ?_); (case c => tlg_ne))
  | ((with_reducible refine' rd_lenS ?c ?_); (case c => first | assumption | (show _ ≤ 16777216; decide) | omega))
  | ((with_reducible refine' rd_slT ?c ?d ?_); (case c => tlg_ne); (case d => simp [HT.sIx]; done); intro _ _ _ h; (simp [cutV, HT.sIx] at h))
  | ((with_reducible refine' rd_bmL ?c ?_); (case c => lcg_src))
  | ((with_reducible refine' rd_shr ?c ?_); (case c => omega))
  | ((with_reducible refine' rd_dnew ?_); intro _ _ _ _ _)
  | ((with_reducible refine' rd_pow ?c ?_); (case c => kpc_turns))
  | ((with_reducible refine' rd_exL ?c ?_); (case c => tlg_ne))
  | ((with_reducible refine' rd_exT ?c ?_); (case c => tlg_ne))
  | ((with_reducible refine' rd_exr1 ?c ?_); (case c => kpc_turns))
  | ((with_reducible refine' rd_exr2 ?c ?_); (case c => refine ⟨?_, ?_, ?_, ?_⟩ <;> first | decide | omega))
  | ((with_reducible refine' rd_gTup ?c ?d ?_); (case c => tlg_ne); (case d => exact rfl))
  | ((with_reducible refine' rd_listL ?c ?_); (case c => tlg_ne); intro _ _ _ _ _)
  | ((with_reducible refine' rd_listT ?c ?_); (case c => tlg_ne); intro _ _ _ _ _)
  | ((with_reducible refine' rd_addL ?c ?d ?e ?_); (case c => lcg_src); (case d => lcg_src); (case e => first | (simp only [List.length_cons, List.length_nil]; decide) | (simp only [List.length_cons, List.length_nil, List.length_append, sizeLine_eq]; omega)); intro _ _ _ _ h; (try simp only [List.cons_append, List.nil_append] at h))
  | ((with_reducible refine' rd_addT ?c ?d ?f ?e ?_); (case c => lcg_src); (case d => lcg_src); (case f => (intro h; cases h)); (case e => first | (simp only [List.length_cons, List.length_nil]; decide) | (simp only [List.length_cons, List.length_nil, List.length_append, sizeLine_eq]; omega)); intro _ _ _ h; (try simp only [List.cons_append, List.nil_append] at h)))
local macro_rules | `(tactic| lcg_off) => `(tactic| repeat kpt_turns)
local macro_rules | `(tactic| kaf_pre) => `(tactic| ((with_reducible refine' rd_menu ?c ?a ?b ?_); (case c => tlg_ne); (case a => first | exact Int.emod_nonneg _ (by decide) | omega); (case b => first | exact Int.emod_lt_of_pos _ (by decide) | (simp only [List.length_cons, List.length_nil]; omega))))
local macro_rules | `(tactic| kaf_suf) => `(tactic| ((with_reducible refine' rd_pick ?c ?a ?b ?_); (case c => tlg_ne); (case a => first | exact Int.emod_nonneg _ (by decide) | omega); (case b => first | exact Int.emod_lt_of_pos _ (by decide) | (simp only [List.length_cons, List.length_nil]; omega))))
section
variable {P : Program} {w : World} {K : PySem.W.Frag} {mg : Str → Option Value} {base : Heap}
def cutT (x : Str) (n : Nat) : Str := Txt.slice x none (some ((n : Nat) : Int))
theorem cutT_le (x : Str) (n : Nat) : (cutT x n).length ≤ x.length := by
  have e := congrArg List.length (slice_allT x n)
  rw [List.length_take, ← len_list, ← len_list] at e
  unfold cutT
  omega
def spWrite (c : Cs) : Sp := fun vs H Q E => ∃ a t d n x, vs = [.ref a, .str n, .str x] ∧ At c H a t d ∧ d.m.length ≤ 1000 ∧
  (atS d = false → ∀ H', At c H' a t { d with m := putK d.m (.inr n) (.str x), done := d.done + 1 } → Chg a t H H' → Q .non H') ∧
  (atS d = true → ∀ dx H', At c H' a t { d with ref := true } → Chg a t H H' → H' dx = some (.xd [("step", .int ((d.done : Nat) : Int))]) → E (.ref c.Stopped) (some dx) H')
theorem sc_Disk_write : FnScope ["self", "name", "text"] ["self", "name", "text"] (defScope s_Disk_write) := ⟨rfl, rfl, rfl, by decide +kernel, rfl, by decide +kernel, by decide +kernel⟩
theorem ok_Disk_write (T : Txt K mg) {c : Cs} (Z : Cl K mg c) {fd : FuncData} {dV : Value} (F : FunD K "write" "Disk.write" s_Disk_write dV c.Disk_write fd) : FnOk P w K mg base (CXE P w) (4) c.Disk_write fd ["self", "name", "text"] (spWrite c) := by
  obtain ⟨_, _, F_Disk_refuse_at_the_stop, ⟨_, hv0_Disk_refuse_at_the_stop, hb0_Disk_refuse_at_the_stop⟩⟩ := Z.i_Disk_refuse_at_the_stop
  have G_Disk_refuse_at_the_stop := ok_Disk_refuse_at_the_stop (P := P) (w := w) (base := base) T Z F_Disk_refuse_at_the_stop
  refine F.okE sc_Disk_write (fun vs H Q E h => ?_) (fun cdv A outer s H vs Q E hr h => ?_)
  · obtain ⟨a, t, d, n, x, rfl, _⟩ := h
    rfl
  · obtain ⟨a, t, d, n, x, rfl, hA, hm, q, qe⟩ := h
    refine ⟨_, (bss_cons (bs_expr (b_m0 (E := E) Z.c_Disk Z.me_Disk_refuse_at_the_stop G_Disk_refuse_at_the_stop (passes_on fun _ _ _ h => h) hb0_Disk_refuse_at_the_stop hv0_Disk_refuse_at_the_stop (hr.mono (by first | decide | omega)) (bv 0)))
    (bss_cons (bs_dput (hu_of hr) (be_fld (bv 0)) (bv 1) (bv 2))
    (bss_one (bs_fld (bv 0) (b_op o_add (be_fld (bv 0)) b_int))))), ?_⟩
    kas_types
    lcg_off
    refine rd_meth hA rfl ?_
    lcg_off
    refine ref_use hA (fun hs => ?_) qe
    lcg_off
    refine rd_fld Z hA Z.na1 lk1 ?_
    lcg_off
    refine ⟨t, _, rfl, DPut.k (k := .inr n) hA.txt (by rw [sizeLine_eq]; omega), ?_⟩
    lcg_off
    obtain ⟨hA1, c1⟩ := hA.put (putK d.m (.inr n) (.str x))
    refine rd_fld Z hA1 Z.na2 lk2 ?_
    lcg_off
    refine rd_put Z hA1 Z.na2 (pf2 (n := d.done + 1)) rfl (fun H2 hA2 c2 => ?_)
    exact q hs _ hA2 (c1.trans c2)
def spLen (c : Cs) : Sp := fun vs H Q E => ∃ a t d n x s, vs = [.ref a, .str n, .str x] ∧ At c H a t d ∧ okM s d.m ∧ s ≤ 1000 ∧ x.length ≤ 100 ∧
  (atS d = false → ∀ H', At c H' a t { d with m := addM d.m n x, done := d.done + 1 } → Chg a t H H' → Q .non H') ∧
  (atS d = true → ∀ dx H', At c H' a t { d with m := if d.ref = true then d.m else torM d.m n (cutT x d.torn), ref := true } → Chg a t H H' → H' dx = some (.xd [("step", .int ((d.done : Nat) : Int))]) → E (.ref c.Stopped) (some dx) H')
theorem sc_Disk_lengthen : FnScope ["self", "name", "text"] ["self", "name", "text"] (defScope s_Disk_lengthen) := ⟨rfl, rfl, rfl, by decide +kernel, rfl, by decide +kernel, by decide +kernel⟩
theorem ok_Disk_lengthen (T : Txt K mg) {c : Cs} (Z : Cl K mg c) {fd : FuncData} {dV : Value} (F : FunD K "lengthen" "Disk.lengthen" s_Disk_lengthen dV c.Disk_lengthen fd) : FnOk P w K mg base (CXE P w) (4) c.Disk_lengthen fd ["self", "name", "text"] (spLen c) := by
  obtain ⟨_, _, F_Disk_refuse_at_the_stop, ⟨_, hv0_Disk_refuse_at_the_stop, hb0_Disk_refuse_at_the_stop⟩⟩ := Z.i_Disk_refuse_at_the_stop
  have G_Disk_refuse_at_the_stop := ok_Disk_refuse_at_the_stop (P := P) (w := w) (base := base) T Z F_Disk_refuse_at_the_stop
  obtain ⟨_, _, F_Disk_add_behind, ⟨_, hv0_Disk_add_behind, hb0_Disk_add_behind⟩⟩ := Z.i_Disk_add_behind
  have G_Disk_add_behind := ok_Disk_add_behind (P := P) (w := w) (base := base) T Z F_Disk_add_behind
  obtain ⟨_, _, F_Disk_is_at_the_stop, ⟨_, hv0_Disk_is_at_the_stop, hb0_Disk_is_at_the_stop⟩⟩ := Z.i_Disk_is_at_the_stop
  have G_Disk_is_at_the_stop := ok_Disk_is_at_the_stop (P := P) (w := w) (base := base) T Z F_Disk_is_at_the_stop
  obtain ⟨_, _, F_Disk_lengthen_torn, ⟨_, hv0_Disk_lengthen_torn, hb0_Disk_lengthen_torn⟩⟩ := Z.i_Disk_lengthen_torn
  have G_Disk_lengthen_torn := ok_Disk_lengthen_torn (P := P) (w := w) (base := base) T Z F_Disk_lengthen_torn
  refine F.okE sc_Disk_lengthen (fun vs H Q E h => ?_) (fun cdv A outer s H vs Q E hr h => ?_)
  · obtain ⟨a, t, d, n, x, s, rfl, _⟩ := h
    rfl
  · obtain ⟨a, t, d, n, x, s, rfl, hA, hm, hs, hx, q, qe⟩ := h
    refine ⟨_, (bss_cons (bs_if (bt_w (bw_and (bt_val (b_m0 Z.c_Disk Z.me_Disk_is_at_the_stop G_Disk_is_at_the_stop pass0 hb0_Disk_is_at_the_stop hv0_Disk_is_at_the_stop (hr.mono (by first | decide | omega)) (bv 0)) (fun _ => rfl)) (bw_and1 (bt_not (bt_val (be_fld (bv 0)) (fun _ => rfl))))))
      (bss_one (bs_expr (b_m Z.c_Disk Z.me_Disk_lengthen_torn G_Disk_lengthen_torn pass0 hb0_Disk_lengthen_torn hv0_Disk_lengthen_torn (hr.mono (by first | decide | omega)) (bv 0) (ba_c (bv 1) (ba_c (b_slice s_any (bv 2) bo_none (bo_some (be_fld (bv 0)))) ba_nil rfl) rfl))))
      bss_nil)
    (bss_cons (bs_expr (b_m0 (E := E) Z.c_Disk Z.me_Disk_refuse_at_the_stop G_Disk_refuse_at_the_stop (passes_on fun _ _ _ h => h) hb0_Disk_refuse_at_the_stop hv0_Disk_refuse_at_the_stop (hr.mono (by first | decide | omega)) (bv 0)))
    (bss_cons (bs_expr (b_m Z.c_Disk Z.me_Disk_add_behind G_Disk_add_behind pass0 hb0_Disk_add_behind hv0_Disk_add_behind (hr.mono (by first | decide | omega)) (bv 0) (ba_c (bv 1) (ba_c (bv 2) ba_nil rfl) rfl)))
    (bss_one (bs_fld (bv 0) (b_op o_add (be_fld (bv 0)) b_int)))))), ?_⟩
    kas_types
    have hcl : (cutT x d.torn).length ≤ 100 := by
      have := cutT_le x d.torn
      omega
    lcg_off
    refine rd_meth hA rfl ?_
    lcg_off
    refine at_use hA ?_
    cases hs2 : atS d with
    | false =>
      lcg_off
      refine rd_meth hA rfl ?_
      lcg_off
      refine ref_use hA (fun _ => ?_) (fun h => by rw [hs2] at h; cases h)
      lcg_off
      refine rd_meth hA rfl ?_
      lcg_off
      refine add_use hA hm hs hx (fun H1 hA1 c1 => ?_)
      lcg_off
      refine rd_fld Z hA1 Z.na2 lk2 ?_
      lcg_off
      refine rd_put Z hA1 Z.na2 (pf2 (n := d.done + 1)) rfl (fun H2 hA2 c2 => ?_)
      exact q hs2 _ hA2 (c1.trans c2)
    | true =>
      lcg_off
      refine rd_fld Z hA Z.na5 lk5 ?_
      have hq := qe hs2
      cases hrf : d.ref with
      | true =>
        rw [hrf, if_pos rfl] at hq
        lcg_off
        refine rd_meth hA rfl ?_
        lcg_off
        refine ref_use hA (fun h => by rw [hs2] at h; cases h) (fun _ => hq)
      | false =>
        rw [hrf, if_neg (by decide)] at hq
        lcg_off
        refine rd_meth hA rfl ?_
        lcg_off
        refine rd_fld Z hA Z.na4 lk4 ?_
        lcg_off
        refine rd_slS (by rw [sizeLine_eq]; omega) ?_
        lcg_off
        refine tor_use hA hm hs hcl (fun H1 hA1 c1 => ?_)
        lcg_off
        refine rd_meth hA1 rfl ?_
        lcg_off
        refine ref_use hA1 (fun h => by have h' : atS d = false := h; rw [hs2] at h'; cases h') (fun _ dx H2 hA2 c2 h2 => hq dx H2 hA2 (c1.trans c2) h2)

def spOff (c : Cs) : Sp := fun vs H Q E => ∃ a t d n, vs = [.ref a, .str n] ∧ At c H a t d ∧
  (atS d = false → (valV d.m (.inr n)).isSome = false → ∀ dx H', Same H H' → H' dx = some (.xd [("name", .str n)]) → E (.ref c.NoFile) (some dx) H') ∧
  (atS d = false → (valV d.m (.inr n)).isSome = true → ∀ H', At c H' a t { d with m := dropK d.m (.inr n), done := d.done + 1 } → Chg a t H H' → Q .non H') ∧
  (atS d = true → ∀ dx H', At c H' a t { d with ref := true } → Chg a t H H' → H' dx = some (.xd [("step", .int ((d.done : Nat) : Int))]) → E (.ref c.Stopped) (some dx) H')
theorem sc_Disk_take_off : FnScope ["self", "name"] ["self", "name"] (defScope s_Disk_take_off) := ⟨rfl, rfl, rfl, by decide +kernel, rfl, by decide +kernel, by decide +kernel⟩
theorem ok_Disk_take_off (T : Txt K mg) {c : Cs} (Z : Cl K mg c) {fd : FuncData} {dV : Value} (F : FunD K "take_off" "Disk.take_off" s_Disk_take_off dV c.Disk_take_off fd) : FnOk P w K mg base (CXE P w) (4) c.Disk_take_off fd ["self", "name"] (spOff c) := by
  obtain ⟨_, _, F_Disk_refuse_at_the_stop, ⟨_, hv0_Disk_refuse_at_the_stop, hb0_Disk_refuse_at_the_stop⟩⟩ := Z.i_Disk_refuse_at_the_stop
  have G_Disk_refuse_at_the_stop := ok_Disk_refuse_at_the_stop (P := P) (w := w) (base := base) T Z F_Disk_refuse_at_the_stop
  obtain ⟨_, _, F_Disk_refuse_what_is_not_there, ⟨_, hv0_Disk_refuse_what_is_not_there, hb0_Disk_refuse_what_is_not_there⟩⟩ := Z.i_Disk_refuse_what_is_not_there
  have G_Disk_refuse_what_is_not_there := ok_Disk_refuse_what_is_not_there (P := P) (w := w) (base := base) T Z F_Disk_refuse_what_is_not_there
  refine F.okE sc_Disk_take_off (fun vs H Q E h => ?_) (fun cdv A outer s H vs Q E hr h => ?_)
  · obtain ⟨a, t, d, n, rfl, _⟩ := h
    rfl
  · obtain ⟨a, t, d, n, rfl, hA, hn, q, qe⟩ := h
    refine ⟨_, (bss_cons (bs_expr (b_m0 (E := E) Z.c_Disk Z.me_Disk_refuse_at_the_stop G_Disk_refuse_at_the_stop (passes_on fun _ _ _ h => h) hb0_Disk_refuse_at_the_stop hv0_Disk_refuse_at_the_stop (hr.mono (by first | decide | omega)) (bv 0)))
    (bss_cons (bs_expr (b_m (E := E) Z.c_Disk Z.me_Disk_refuse_what_is_not_there G_Disk_refuse_what_is_not_there (passes_on fun _ _ _ h => h) hb0_Disk_refuse_what_is_not_there hv0_Disk_refuse_what_is_not_there (hr.mono (by first | decide | omega)) (bv 0) (ba_c (bv 1) ba_nil rfl)))
    (bss_cons (bs_expr (bm_dpop1 (be_fld (bv 0)) (bv 1)))
    (bss_one (bs_fld (bv 0) (b_op o_add (be_fld (bv 0)) b_int)))))), ?_⟩
    kas_types
    lcg_off
    refine rd_meth hA rfl ?_
    lcg_off
    refine ref_use hA (fun hs => ?_) qe
    lcg_off
    refine rd_meth hA rfl ?_
    lcg_off
    refine thereE_use hA (fun hso => ?_) (hn hs)
    lcg_off
    refine rd_fld Z hA Z.na1 lk1 ?_
    obtain ⟨v, hv⟩ := Option.isSome_iff_exists.mp hso
    refine ⟨t, rfl, .inl ⟨_, .inl hA.txt⟩, ?_⟩
    lcg_off
    refine ⟨_, .inr n, v, hA.txt, rfl, hv, ?_⟩
    lcg_off
    obtain ⟨hA1, c1⟩ := hA.put (dropK d.m (.inr n))
    refine rd_fld Z hA1 Z.na2 lk2 ?_
    lcg_off
    refine rd_put Z hA1 Z.na2 (pf2 (n := d.done + 1)) rfl (fun H2 hA2 c2 => ?_)
    exact q hs hso _ hA2 (c1.trans c2)

def spFiles (c : Cs) : Sp := fun vs H Q _ => ∃ a t d, vs = [.ref a] ∧ At c H a t d ∧ ∀ p H', H p = none → Same H H' → H' p = some (.dK d.m) → Q (.ref p) H'
theorem sc_Disk_files : FnScope ["self"] ["self"] (defScope s_Disk_files) := ⟨rfl, rfl, rfl, by decide +kernel, rfl, by decide +kernel, by decide +kernel⟩
theorem ok_Disk_files (T : Txt K mg) {c : Cs} (Z : Cl K mg c) {fd : FuncData} {dV : Value} (F : FunD K "files" "Disk.files" s_Disk_files dV c.Disk_files fd) : FnOk P w K mg base CX0 (1) c.Disk_files fd ["self"] (spFiles c) := by
  refine F.okB sc_Disk_files (fun vs H Q E h => ?_) (fun cdv A outer s H vs Q E hr h => ?_)
  · obtain ⟨a, t, d, rfl, _⟩ := h
    rfl
  · obtain ⟨a, t, d, rfl, hA, q⟩ := h
    refine ⟨_, (bss_one (bs_ret (b_t c_dictC T.b_dict (by kernel_rfl) (ba_c (be_fld (bv 0)) ba_nil rfl)))), ?_⟩
    kas_types
    lcg_off
    refine rd_fld Z hA Z.na1 lk1 ?_
    lcg_off
    exact rd_dictC hA.txt q
theorem putF_le {fl : Str} {y : V} : ∀ {fs : List (Str × V)} {n : Nat}, fs.length ≤ n → (putF fl y fs).length ≤ n + 1
  | [], _, _ => Nat.succ_le_succ (Nat.zero_le _)
  | (g, x) :: r, n, h => by
    unfold putF
    split
    · exact Nat.le_succ_of_le h
    · cases n with
      | zero => cases h
      | succ n => exact Nat.succ_le_succ (putF_le (Nat.le_of_succ_le_succ h))
theorem rd_put0 {c : Cs} (Z : Cl K mg c) {G : Hp} {a dx : Addr} {fs : List (Str × V)} {fl : Str} {y : V} (hG : G a = some (.ins c.Disk dx fs)) {n : Nat} (hl : fs.length ≤ n) (hn : PySem.W.findIn K (.ref c.Disk) fl = some none) (h5 : n < 1000 := by decide) {F : Hp → Prop} (q : F (upd G a (.ins c.Disk dx (putF fl y fs)))) :
    ∃ a' C dx' fs', V.ref a = .ref a' ∧ G a' = some (.ins C dx' fs') ∧ Cls K C ∧ NoAttr K C fl ∧ fs'.length < 1000 ∧ F (upd G a' (.ins C dx' (putF fl y fs'))) := ⟨a, _, dx, fs, rfl, hG, Z.c_Disk, hn, Nat.lt_of_le_of_lt hl h5, q⟩
def spNew (c : Cs) : Sp := fun vs H Q _ => ∃ a dx f m stop torn, vs = [.ref a, f, stopV stop, .int ((torn : Nat) : Int)] ∧ H a = some (.ins c.Disk dx []) ∧ (f = .non ∧ m = [] ∨ ∃ p, f = .ref p ∧ H p = some (.dK m)) ∧
  ∀ t H', H t = none → At c H' a t ⟨m, 0, stop, torn, false⟩ → Chg a t H H' → Q .non H'
theorem sc_Disk_init : FnScope ["self", "files", "stop", "torn"] ["self", "files", "stop", "torn"] (defScope s_Disk_init) := ⟨rfl, rfl, rfl, by decide +kernel, rfl, by decide +kernel, by decide +kernel⟩
theorem ok_Disk_init (T : Txt K mg) {c : Cs} (Z : Cl K mg c) {fd : FuncData} {dV : Value} (F : FunD K "__init__" "Disk.__init__" s_Disk_init dV c.Disk_init fd) : FnOk P w K mg base CX0 (1) c.Disk_init fd ["self", "files", "stop", "torn"] (spNew c) := by
  refine F.okB sc_Disk_init (fun vs H Q E h => ?_) (fun cdv A outer s H vs Q E hr h => ?_)
  · obtain ⟨a, dx, f', m, stop, torn, rfl, _⟩ := h
    rfl
  · obtain ⟨a, dx, f', m, stop, torn, rfl, ha, hf, q⟩ := h
    refine ⟨_, (bss_cons (bs_fld (bv 0) (b_if (bt_cmp o_is (bv 1) b_non (nomark _)) b_dnewK (b_t c_dictC T.b_dict (by kernel_rfl) (ba_c (bv 1) ba_nil rfl))))
    (bss_cons (bs_fld (bv 0) b_int)
    (bss_cons (bs_fld (bv 0) (bv 2))
    (bss_cons (bs_fld (bv 0) (bv 3))
    (bss_one (bs_fld (bv 0) b_bl)))))), ?_⟩
    kas_types
    rcases hf with ⟨rfl, rfl⟩ | ⟨p, rfl, hp⟩
    · lcg_off
      refine fun t nt => ?_
      lcg_off
      have nta : t ≠ a := fun z => by rw [z, ha] at nt; cases nt
      have g0 : upd H t (.dK []) a = some (.ins c.Disk dx []) := by rw [upd_ne (Ne.symm nta)]; exact ha
      refine rd_put0 Z g0 (Nat.le_refl 0) Z.na1 (by decide) ?_
      lcg_off
      refine rd_put0 Z upd_same (putF_le (Nat.le_refl 0)) Z.na2 (by decide) ?_
      lcg_off
      refine rd_put0 Z upd_same (putF_le (putF_le (Nat.le_refl 0))) Z.na3 (by decide) ?_
      lcg_off
      refine rd_put0 Z upd_same (putF_le (putF_le (putF_le (Nat.le_refl 0)))) Z.na4 (by decide) ?_
      lcg_off
      refine rd_put0 Z upd_same (putF_le (putF_le (putF_le (putF_le (Nat.le_refl 0))))) Z.na5 (by decide) ?_
      rw [upd_upd, upd_upd, upd_upd, upd_upd]
      exact q t _ nt ⟨⟨dx, upd_same⟩, by rw [upd_ne nta]; exact upd_same⟩ (fun b o n1 n2 e => by rw [upd_ne n1, upd_ne n2]; exact e)
    · lcg_off
      refine rd_dictC hp (fun t G nt sG gt => ?_)
      have nta : t ≠ a := fun z => by rw [z, ha] at nt; cases nt
      lcg_off
      refine rd_put0 Z (sG _ _ ha) (Nat.le_refl 0) Z.na1 (by decide) ?_
      lcg_off
      refine rd_put0 Z upd_same (putF_le (Nat.le_refl 0)) Z.na2 (by decide) ?_
      lcg_off
      refine rd_put0 Z upd_same (putF_le (putF_le (Nat.le_refl 0))) Z.na3 (by decide) ?_
      lcg_off
      refine rd_put0 Z upd_same (putF_le (putF_le (putF_le (Nat.le_refl 0)))) Z.na4 (by decide) ?_
      lcg_off
      refine rd_put0 Z upd_same (putF_le (putF_le (putF_le (putF_le (Nat.le_refl 0))))) Z.na5 (by decide) ?_
      rw [upd_upd, upd_upd, upd_upd, upd_upd]
      exact q t _ nt ⟨⟨dx, upd_same⟩, by rw [upd_ne nta]; exact gt⟩ (fun b o n1 n2 e => by rw [upd_ne n1]; exact sG _ _ e)
theorem write_use {c : Cs} {H : Hp} {Q : VK} {E : XK} {a t : Addr} {d : DS} {n x : Str} (h : At c H a t d) (hm : d.m.length ≤ 1000) (q : atS d = false → ∀ H', At c H' a t { d with m := putK d.m (.inr n) (.str x), done := d.done + 1 } → Chg a t H H' → Q .non H')
    (qe : atS d = true → ∀ dx H', At c H' a t { d with ref := true } → Chg a t H H' → H' dx = some (.xd [("step", .int ((d.done : Nat) : Int))]) → E (.ref c.Stopped) (some dx) H') : spWrite c [.ref a, .str n, .str x] H Q E := ⟨a, t, d, n, x, rfl, h, hm, q, qe⟩
theorem len_use {c : Cs} {H : Hp} {Q : VK} {E : XK} {a t : Addr} {d : DS} {n x : Str} (h : At c H a t d) {s : Nat} (hm : okM s d.m) (hs : s ≤ 1000) (hx : x.length ≤ 100) (q : atS d = false → ∀ H', At c H' a t { d with m := addM d.m n x, done := d.done + 1 } → Chg a t H H' → Q .non H')
    (qe : atS d = true → ∀ dx H', At c H' a t { d with m := if d.ref = true then d.m else torM d.m n (cutT x d.torn), ref := true } → Chg a t H H' → H' dx = some (.xd [("step", .int ((d.done : Nat) : Int))]) → E (.ref c.Stopped) (some dx) H') : spLen c [.ref a, .str n, .str x] H Q E := ⟨a, t, d, n, x, s, rfl, h, hm, hs, hx, q, qe⟩
theorem files_use {c : Cs} {H : Hp} {Q : VK} {E : XK} {a t : Addr} {d : DS} (h : At c H a t d) (q : ∀ p H', H p = none → Same H H' → H' p = some (.dK d.m) → Q (.ref p) H') : spFiles c [.ref a] H Q E := ⟨a, t, d, rfl, h, q⟩
/-- Disk(..) of no files, or of those of a dict -/
theorem new_use {c : Cs} {H : Hp} {F : Addr → Hp → Prop} {E : XK} {f v : V} {j : Int} (m : List (Key × V)) (stop : Option Nat) (torn : Nat) (hv : v = stopV stop) (hj : j = (torn : Int)) (hf : f = .non ∧ m = [] ∨ ∃ p, f = .ref p ∧ H p = some (.dK m))
    (q : ∀ a t H', H a = none → H t = none → At c H' a t ⟨m, 0, stop, torn, false⟩ → Same H H' → F a H') :
    ∀ x dx, H x = none → H dx = none → dx ≠ x → spNew c [.ref x, f, v, .int j] (upd (upd H dx (.own x)) x (.ins c.Disk dx [])) (fun v H2 => v = .non ∧ F x H2) E := by
  intro x dx hx hdx hne
  refine ⟨x, dx, f, m, stop, torn, by rw [hv, hj], upd_same, ?_, fun t H' ht hA hc => ⟨rfl, ?_⟩⟩
  · rcases hf with h | ⟨p, h1, h2⟩
    · exact .inl h
    · refine .inr ⟨p, h1, ?_⟩
      rw [upd_ne (fun z => by rw [z, hx] at h2; cases h2), upd_ne (fun z => by rw [z, hdx] at h2; cases h2)]
      exact h2
  · have htx : t ≠ x := fun z => by rw [z, upd_same] at ht; cases ht
    have htd : t ≠ dx := fun z => by rw [z, upd_ne hne, upd_same] at ht; cases ht
    refine q x t H' hx (by rw [upd_ne htx, upd_ne htd] at ht; exact ht) hA (fun b o e => ?_)
    have b1 : b ≠ x := fun z => by rw [z, hx] at e; cases e
    have b2 : b ≠ dx := fun z => by rw [z, hdx] at e; cases e
    have b3 : b ≠ t := fun z => by rw [upd_ne htx, upd_ne htd] at ht; rw [z, ht] at e; cases e
    exact hc b o b1 b3 (by rw [upd_ne b1, upd_ne b2]; exact e)

theorem offE_use {c : Cs} {H : Hp} {Q : VK} {E : XK} {a t : Addr} {d : DS} {n : Str} (h : At c H a t d) (hn : atS d = false → (valV d.m (.inr n)).isSome = false → ∀ dx H', Same H H' → H' dx = some (.xd [("name", .str n)]) → E (.ref c.NoFile) (some dx) H') (q : atS d = false → (valV d.m (.inr n)).isSome = true → ∀ H', At c H' a t { d with m := dropK d.m (.inr n), done := d.done + 1 } → Chg a t H H' → Q .non H')
    (qe : atS d = true → ∀ dx H', At c H' a t { d with ref := true } → Chg a t H H' → H' dx = some (.xd [("step", .int ((d.done : Nat) : Int))]) → E (.ref c.Stopped) (some dx) H') : spOff c [.ref a, .str n] H Q E := ⟨a, t, d, n, rfl, h, hn, q, qe⟩
def spSt (c : Cs) : Sp := fun vs H Q _ => ∃ a t d, vs = [.ref a] ∧ At c H a t d ∧ Q (.int ((d.done : Nat) : Int)) H
theorem sc_Disk_steps : FnScope ["self"] ["self"] (defScope s_Disk_steps) := ⟨rfl, rfl, rfl, by decide +kernel, rfl, by decide +kernel, by decide +kernel⟩
theorem ok_Disk_steps (T : Txt K mg) {c : Cs} (Z : Cl K mg c) {fd : FuncData} {dV : Value} (F : FunD K "steps" "Disk.steps" s_Disk_steps dV c.Disk_steps fd) : FnOk P w K mg base CX0 (1) c.Disk_steps fd ["self"] (spSt c) := by
  refine F.okB sc_Disk_steps (fun vs H Q E h => ?_) (fun cdv A outer s H vs Q E hr h => ?_)
  · obtain ⟨a, t, d, rfl, _⟩ := h
    rfl
  · obtain ⟨a, t, d, rfl, hA, q⟩ := h
    refine ⟨_, (bss_one (bs_ret (be_fld (bv 0)))), ?_⟩
    kas_types
    lcg_off
    refine rd_fld Z hA Z.na2 lk2 ?_
    exact q
theorem st_use {c : Cs} {H : Hp} {Q : VK} {E : XK} {a t : Addr} {d : DS} (h : At c H a t d) (q : Q (.int ((d.done : Nat) : Int)) H) : spSt c [.ref a] H Q E := ⟨a, t, d, rfl, h, q⟩
def spHs (c : Cs) : Sp := fun vs H Q _ => ∃ a t d, vs = [.ref a] ∧ At c H a t d ∧ Q (.bl d.ref) H
theorem sc_Disk_has_stopped : FnScope ["self"] ["self"] (defScope s_Disk_has_stopped) := ⟨rfl, rfl, rfl, by decide +kernel, rfl, by decide +kernel, by decide +kernel⟩
theorem ok_Disk_has_stopped (T : Txt K mg) {c : Cs} (Z : Cl K mg c) {fd : FuncData} {dV : Value} (F : FunD K "has_stopped" "Disk.has_stopped" s_Disk_has_stopped dV c.Disk_has_stopped fd) : FnOk P w K mg base CX0 (1) c.Disk_has_stopped fd ["self"] (spHs c) := by
  refine F.okB sc_Disk_has_stopped (fun vs H Q E h => ?_) (fun cdv A outer s H vs Q E hr h => ?_)
  · obtain ⟨a, t, d, rfl, _⟩ := h
    rfl
  · obtain ⟨a, t, d, rfl, hA, q⟩ := h
    refine ⟨_, (bss_one (bs_ret (be_fld (bv 0)))), ?_⟩
    kas_types
    lcg_off
    refine rd_fld Z hA Z.na5 lk5 ?_
    exact q
theorem hs_use {c : Cs} {H : Hp} {Q : VK} {E : XK} {a t : Addr} {d : DS} (h : At c H a t d) (q : Q (.bl d.ref) H) : spHs c [.ref a] H Q E := ⟨a, t, d, rfl, h, q⟩
def spNames (c : Cs) : Sp := fun vs H Q _ => ∃ a t d zs, vs = [.ref a] ∧ At c H a t d ∧ d.m.map (·.1) = zs.map Sum.inr ∧ d.m.length < 64 ∧ ∀ zs' p H', zs'.Perm zs → PyProof.Rows.sortedS zs' = true → H p = none → Same H H' → H' p = some (.lst (zs'.map V.str)) → Q (.ref p) H'
theorem sc_Disk_names : FnScope ["self"] ["self"] (defScope s_Disk_names) := ⟨rfl, rfl, rfl, by decide +kernel, rfl, by decide +kernel, by decide +kernel⟩
theorem ok_Disk_names (T : Txt K mg) {c : Cs} (Z : Cl K mg c) {fd : FuncData} {dV : Value} (F : FunD K "names" "Disk.names" s_Disk_names dV c.Disk_names fd) : FnOk P w K mg base CX0 (1) c.Disk_names fd ["self"] (spNames c) := by
  refine F.okB sc_Disk_names (fun vs H Q E h => ?_) (fun cdv A outer s H vs Q E hr h => ?_)
  · obtain ⟨a, t, d, zs, rfl, _⟩ := h
    rfl
  · obtain ⟨a, t, d, zs, rfl, hA, hk, hl, q⟩ := h
    refine ⟨_, (bss_one (bs_ret (b_b c_sortD T.b_sorted (by kernel_rfl) (ba_c (be_fld (bv 0)) ba_nil rfl)))), ?_⟩
    kas_types
    lcg_off
    refine rd_fld Z hA Z.na1 lk1 ?_
    lcg_off
    exact rd_sortD zs hA.txt hk hl q
theorem names_use {c : Cs} {H : Hp} {Q : VK} {E : XK} {a t : Addr} {d : DS} (zs : List Str) (h : At c H a t d) (hk : d.m.map (·.1) = zs.map Sum.inr) (hl : d.m.length < 64) (q : ∀ zs' p H', zs'.Perm zs → PyProof.Rows.sortedS zs' = true → H p = none → Same H H' → H' p = some (.lst (zs'.map V.str)) → Q (.ref p) H') : spNames c [.ref a] H Q E := ⟨a, t, d, zs, rfl, h, hk, hl, q⟩
def spTx (c : Cs) : Sp := fun vs H Q E => ∃ a t d n, vs = [.ref a, .str n] ∧ At c H a t d ∧ (∀ v, valV d.m (.inr n) = some v → Q v H) ∧ (valV d.m (.inr n) = none → ∀ dx H', Same H H' → H' dx = some (.xd [("name", .str n)]) → E (.ref c.NoFile) (some dx) H')
theorem sc_Disk_text : FnScope ["self", "name"] ["self", "name"] (defScope s_Disk_text) := ⟨rfl, rfl, rfl, by decide +kernel, rfl, by decide +kernel, by decide +kernel⟩
theorem ok_Disk_text (T : Txt K mg) {c : Cs} (Z : Cl K mg c) {fd : FuncData} {dV : Value} (F : FunD K "text" "Disk.text" s_Disk_text dV c.Disk_text fd) : FnOk P w K mg base (CXE P w) (4) c.Disk_text fd ["self", "name"] (spTx c) := by
  obtain ⟨_, _, F_Disk_refuse_what_is_not_there, ⟨_, hv0_Disk_refuse_what_is_not_there, hb0_Disk_refuse_what_is_not_there⟩⟩ := Z.i_Disk_refuse_what_is_not_there
  have G_Disk_refuse_what_is_not_there := ok_Disk_refuse_what_is_not_there (P := P) (w := w) (base := base) T Z F_Disk_refuse_what_is_not_there
  refine F.okE sc_Disk_text (fun vs H Q E h => ?_) (fun cdv A outer s H vs Q E hr h => ?_)
  · obtain ⟨a, t, d, n, rfl, _⟩ := h
    rfl
  · obtain ⟨a, t, d, n, rfl, hA, q, qe⟩ := h
    refine ⟨_, (bss_cons (bs_expr (b_m (E := E) Z.c_Disk Z.me_Disk_refuse_what_is_not_there G_Disk_refuse_what_is_not_there (passes_on fun _ _ _ h => h) hb0_Disk_refuse_what_is_not_there hv0_Disk_refuse_what_is_not_there (hr.mono (by first | decide | omega)) (bv 0) (ba_c (bv 1) ba_nil rfl)))
    (bss_one (bs_ret (b_dget (hu_of hr) (be_fld (bv 0)) (bv 1) (fun _ _ => rfl))))), ?_⟩
    kas_types
    lcg_off
    refine rd_meth hA rfl ?_
    lcg_off
    refine thereE_use hA (fun hs => ?_) (fun hs => qe (by cases e : valV d.m (.inr n) with | none => rfl | some v => rw [e] at hs; cases hs))
    obtain ⟨v, hv⟩ := Option.isSome_iff_exists.mp hs
    lcg_off
    refine rd_fld Z hA Z.na1 lk1 ?_
    lcg_off
    refine ⟨t, v, rfl, ?_, q v hv⟩
    rw [← hv]
    exact DGet.k (k := .inr n) hA.txt
theorem tx_use {c : Cs} {H : Hp} {Q : VK} {E : XK} {a t : Addr} {d : DS} {n : Str} (h : At c H a t d) (q : ∀ v, valV d.m (.inr n) = some v → Q v H) (qe : valV d.m (.inr n) = none → ∀ dx H', Same H H' → H' dx = some (.xd [("name", .str n)]) → E (.ref c.NoFile) (some dx) H') : spTx c [.ref a, .str n] H Q E := ⟨a, t, d, n, rfl, h, q, qe⟩

end
end T50



set_option Elab.async false
set_option linter.all false
set_option maxRecDepth 100000
set_option maxHeartbeats 4000000
namespace T50
open PySem L2

local macro_rules | `(tactic| lcg_src) => `(tactic| first | with_reducible assumption | ((with_reducible refine' Same.get ?s ?e); (case s => with_reducible assumption); (case e => lcg_src)))
local macro_rules | `(tactic| lcg_sub) => `(tactic| first | with_reducible assumption | with_reducible exact Same.refl _ | ((with_reducible refine' Same.tr ?s ?e); (case s => with_reducible assumption); (case e => lcg_sub)))
local macro_rules | `(tactic| keq_rows) => `(tactic| first | with_reducible assumption | with_reducible exact Rep.int' | with_reducible exact Rep.str' | with_reducible exact Rep.bl' | with_reducible exact Rep.non' | ((with_reducible refine' Rep.same ?s ?e); (case s => with_reducible assumption); (case e => keq_rows)) | ((with_reducible refine' Rep.mkT ?c ?_); (case c => lcg_src); keq_hits) | ((with_reducible refine' Rep.mkL ?c ?_); (case c => lcg_src); keq_hits) | ((with_reducible refine' Rep.mkD ?c); (case c => lcg_src)))
local macro_rules | `(tactic| keq_hits) => `(tactic| first | with_reducible assumption | with_reducible exact Reps.nil' | ((with_reducible refine' Reps.cons' ?c ?_); (case c => keq_rows); keq_hits) | ((with_reducible refine' Reps.same ?s ?e); (case s => with_reducible assumption); (case e => keq_hits)))
local macro_rules | `(tactic| tlg_ne) => `(tactic| first | with_reducible assumption | ((with_reducible refine' SqL.of ?c); (case c => lcg_src)) | ((with_reducible refine' SqT.of ?c); (case c => lcg_src)) | ((with_reducible refine' SqL.same ?s ?e); (case s => with_reducible assumption); (case e => tlg_ne)))
local macro_rules | `(tactic| kpc_turns) => `(tactic| first | decide | omega | (constructor <;> first | decide | omega))
local macro_rules | `(tactic| kas_types) => `(tactic| simp only [cxK, cxK', compK, triedK, heldXK, start_cc, start_cn, start_nn])
local macro_rules | `(tactic| kpt_turns) => `(tactic| first
  | refine rd_go ?_
  | ((with_reducible refine' rd_mod ?c ?_); (case c => kpc_turns))
  | ((with_reducible refine' rd_fdiv ?c ?_); (case c => kpc_turns))
  | ((with_reducible refine' rd_mulI ?c ?_); (case c => first | exact .inl (by kpc_turns) | exact .inr (by kpc_turns)))
  | ((with_reducible refine' rd_mkT ?c ?_); (case c => (simp only [List.length_cons, List.length_nil]; decide)); intro _ _ _ _)
  | ((with_reducible refine' rd_mkL ?c ?_); (case c => (simp only [List.length_cons, List.length_nil]; decide)); intro _ _ _ _ _)
  | ((with_reducible refine' rd_ixT ?c ?d ?_); (case c => tlg_ne); (case d => exact rfl))
  | ((with_reducible refine' rd_ixL ?c ?d ?_); (case c => tlg_ne); (case d => exact rfl))
  | ((with_reducible refine' rd_isT ?c ?_); (case c => lcg_src))
  | ((with_reducible refine' rd_isL ?c ?_); (case c => lcg_src))
  | ((with_reducible refine' rd_isD ?c ?_); (case c => lcg_src))
  | ((with_reducible refine' rd_lenT ?c ?_); (case c => tlg_ne))
  | ((with_reducible refine' rd_lenL ?c ?_); (case c => tlg_ne))
  | ((with_reducible refine' rd_lenS ?c ?_); (case c => first | assumption | (show _ ≤ 16777216; decide) | omega))
  | ((with_reducible refine' rd_slT ?c ?d ?_); (case c => tlg_ne); (case d => simp [HT.sIx]; done); intro _ _ _ h; (simp [cutV, HT.sIx] at h))
  | ((with_reducible refine' rd_bmL ?c ?_); (case c => lcg_src))
  | ((with_reducible refine' rd_shr ?c ?_); (case c => omega))
  | ((with_reducible refine' rd_dnew ?_); intro _ _ _ _ _)
  | ((with_reducible refine' rd_pow ?c ?_); (case c => kpc_turns))
  | ((with_reducible refine' rd_exL ?c ?_); (case c => tlg_ne))
  | ((with_reducible refine' rd_exT ?c ?_); (case c => tlg_ne))
  | ((with_reducible refine' rd_exr1 ?c ?_); (case c => kpc_turns))
  | ((with_reducible refine' rd_exr2 ?c ?_); (case c => refine ⟨?_, ?_, ?_, ?_⟩ <;> first | decide | omega))
  | ((with_reducible refine' rd_gTup ?c ?d ?_); (case c => tlg_ne); (case d => exact rfl))
  | ((with_reducible refine' rd_listL ?c ?_); (case c => tlg_ne); intro _ _ _ _ _)
  | ((with_reducible refine' rd_listT ?c ?_); (case c => tlg_ne); intro _ _ _ _ _)
  | ((with_reducible refine' rd_addL ?c ?d ?e ?_); (case c => lcg_src); (case d => lcg_src); (case e => first | (simp only [List.length_cons, List.length_nil]; decide) | (simp only [List.length_cons, List.length_nil, List.length_append, sizeLine_eq]; omega)); intro _ _ _ _ h; (try simp only [List.cons_append, List.nil_append] at h))
  | ((with_reducible refine' rd_addT ?c ?d ?f ?e ?_); (case c => lcg_src); (case d => lcg_src); (case f => (intro h; cases h)); (case e => first | (simp only [List.length_cons, List.length_nil]; decide) | (simp only [List.length_cons, List.length_nil, List.length_append, sizeLine_eq]; omega)); intro _ _ _ h; (try simp only [List.cons_append, List.nil_append] at h)))
local macro_rules | `(tactic| lcg_off) => `(tactic| repeat kpt_turns)
local macro_rules | `(tactic| kaf_pre) => `(tactic| ((with_reducible refine' rd_menu ?c ?a ?b ?_); (case c => tlg_ne); (case a => first | exact Int.emod_nonneg _ (by decide) | omega); (case b => first | exact Int.emod_lt_of_pos _ (by decide) | (simp only [List.length_cons, List.length_nil]; omega))))
local macro_rules | `(tactic| kaf_suf) => `(tactic| ((with_reducible refine' rd_pick ?c ?a ?b ?_); (case c => tlg_ne); (case a => first | exact Int.emod_nonneg _ (by decide) | omega); (case b => first | exact Int.emod_lt_of_pos _ (by decide) | (simp only [List.length_cons, List.length_nil]; omega))))
section
variable {P : Program} {w : World} {K : PySem.W.Frag} {mg : Str → Option Value} {base : Heap}
def spCell (K : PySem.W.Frag) : Sp := fun vs H Q _ => ∃ (a : Addr) (ns : List Int) (k : Nat), vs = [.ref a, .int k] ∧ SqL K H a (ns.map V.int) ∧ Q (.int (ns.getD k 0)) H
theorem sc__law_cell_at : FnScope ["_law_script", "_law_k"] ["_law_script", "_law_k"] (defScope s__law_cell_at) := ⟨rfl, rfl, rfl, by decide +kernel, rfl, by decide +kernel, by decide +kernel⟩
theorem ok__law_cell_at (T : Txt K mg) {f : Addr} {fd : FuncData} (N : Fn K mg "_law_cell_at" s__law_cell_at ["_law_script", "_law_k"] f fd) : FnOk P w K mg base CX0 (1) f fd ["_law_script", "_law_k"] (spCell K) := by
  refine N.fu.okB sc__law_cell_at (fun vs H Q E h => ?_) (fun cdv A outer s H vs Q E hr h => ?_)
  · obtain ⟨a, ns, k, rfl, _⟩ := h
    rfl
  · obtain ⟨a, ns, k, rfl, hS, q⟩ := h
    refine ⟨_, (bss_cons (bs_if (bt_cmp o_lt (bv 1) (b_b c_len T.b_len (by kernel_rfl) (ba_c (bv 0) ba_nil rfl)) (nomark _))
      (bss_one (bs_ret (b_ix ix_seq (bv 0) (bv 1) (fun _ _ => rfl))))
      bss_nil)
    (bss_one (bs_ret b_int))), ?_⟩
    kas_types
    lcg_off
    refine ite_dec (fun h1 => ?_) (fun h1 => ?_)
    · rw [List.length_map] at h1
      have hk : k < ns.length := by omega
      lcg_off
      refine rd_ixL hS (atI_nat (v := .int (ns.getD k 0)) ?_) q
      rw [List.getElem?_map, List.getElem?_eq_getElem hk, List.getD_eq_getElem?_getD, List.getElem?_eq_getElem hk]
      rfl
    · rw [List.length_map] at h1
      have e : ns.getD k 0 = 0 := by
        rw [List.getD_eq_getElem?_getD, List.getElem?_eq_none (by omega)]
        rfl
      rw [e] at q
      lcg_off
      exact q
theorem cell_use {K : PySem.W.Frag} {H : Hp} {Q : VK} {E : XK} {a : Addr} {ns : List Int} {i : Int} {k : Nat} (hS : SqL K H a (ns.map V.int)) (hi : i = (k : Int)) (q : Q (.int (ns.getD k 0)) H) : spCell K [.ref a, .int i] H Q E := ⟨a, ns, k, by rw [hi], hS, q⟩

def mixed (c k : Int) : Int := ((c + 7919 * k) * 48271 % 2147483647) * ((c + 7919 * k) * 48271 % 2147483647 % 65537 + k + 1) % 2147483647
theorem mixed_bound (c k : Int) : 0 ≤ mixed c k ∧ mixed c k < 2147483647 := by
  unfold mixed
  exact ⟨Int.emod_nonneg _ (by decide), Int.emod_lt_of_pos _ (by decide)⟩
def spMixed : Sp := fun vs H Q _ => ∃ (c k : Int), vs = [.int c, .int k] ∧ Q (.int (mixed c k)) H
theorem sc__law_mixed : FnScope ["_law_cell", "_law_k", "_law_mixed_here"] ["_law_cell", "_law_k"] (defScope s__law_mixed) := ⟨rfl, rfl, rfl, by decide +kernel, rfl, by decide +kernel, by decide +kernel⟩
theorem ok__law_mixed (T : Txt K mg) {f : Addr} {fd : FuncData} (N : Fn K mg "_law_mixed" s__law_mixed ["_law_cell", "_law_k"] f fd) : FnOk P w K mg base CX0 (1) f fd ["_law_cell", "_law_k"] (spMixed) := by
  refine N.fu.okB sc__law_mixed (fun vs H Q E h => ?_) (fun cdv A outer s H vs Q E hr h => ?_)
  · obtain ⟨c, k, rfl, _⟩ := h
    rfl
  · obtain ⟨c, k, rfl, q⟩ := h
    refine ⟨_, (bss_cons (bs_set (i := 2) sc__law_mixed.nd rfl (by first | exact Or.inl rfl | exact Or.inr rfl) (b_op op_mod (b_op o_mul (b_op o_add (bv 0) (b_op o_mul b_int (bv 1))) b_int) b_int))
    (bss_one (bs_ret (b_op op_mod (b_op o_mul (bv 2) (b_op o_add (b_op o_add (b_op op_mod (bv 2) b_int) (bv 1)) b_int)) b_int)))), ?_⟩
    kas_types
    lcg_off
    exact q
theorem mixed_use {H : Hp} {Q : VK} {E : XK} {c k : Int} (q : Q (.int (mixed c k)) H) : spMixed [.int c, .int k] H Q E := ⟨c, k, rfl, q⟩

/-! ### the law's own figures -/
def spWhole : Sp := fun vs H Q _ => ∃ i, vs = [.int i] ∧ Q (.bl true) H
theorem sc__law_whole : FnScope ["_law_found"] ["_law_found"] (defScope s__law_whole) := ⟨rfl, rfl, rfl, by decide +kernel, rfl, by decide +kernel, by decide +kernel⟩
theorem ok__law_whole (T : Txt K mg) {f : Addr} {fd : FuncData} (N : Fn K mg "_law_whole" s__law_whole ["_law_found"] f fd) : FnOk P w K mg base CX0 (1) f fd ["_law_found"] (spWhole) := by
  refine N.fu.okB sc__law_whole (fun vs H Q E h => ?_) (fun cdv A outer s H vs Q E hr h => ?_)
  · obtain ⟨i, rfl, _⟩ := h
    rfl
  · obtain ⟨i, rfl, q⟩ := h
    refine ⟨_, (bss_one (bs_ret (b_and (b_b c_isinst T.b_isinstance (by kernel_rfl) (ba_c (bv 0) (ba_c (b_ty (T := "int") T.b_int (by kernel_rfl)) ba_nil rfl) rfl)) (b_one (b_not (b_b c_isinst T.b_isinstance (by kernel_rfl) (ba_c (bv 0) (ba_c (b_ty (T := "bool") T.b_bool (by kernel_rfl)) ba_nil rfl) rfl))))))), ?_⟩
    kas_types
    lcg_off
    exact q
theorem whole_use {H : Hp} {Q : VK} {E : XK} {i : Int} (q : Q (.bl true) H) : spWhole [.int i] H Q E := ⟨i, rfl, q⟩

theorem ite_t {p : Prop} [Decidable p] {A B : Prop} (h : p) (a : A) : if p then A else B := by rw [if_pos h]; exact a
theorem ite_f {p : Prop} [Decidable p] {A B : Prop} (h : ¬ p) (b : B) : if p then A else B := by rw [if_neg h]; exact b
/-! ### the law's steps -/
theorem atI_in {xs : List V} {i : Int} (h0 : 0 ≤ i) (h1 : i < xs.length) : ∃ v, v ∈ xs ∧ atI xs i = some v := by
  obtain ⟨j, rfl⟩ : ∃ j : Nat, i = (j : Int) := ⟨i.toNat, by omega⟩
  have hj : j < xs.length := by omega
  exact ⟨xs[j], List.getElem_mem hj, atI_nat (List.getElem?_eq_getElem hj)⟩
theorem numT_d54 (n : Nat) : Str.ofString (toString ((n : Nat) : Int)) = numT n := rfl
theorem log_small (n : Nat) (h : n < 2 ^ 64) : ((n : Nat) : Int).natAbs.log2 < 1920 := by
  rw [Int.natAbs_natCast]
  by_cases h0 : n = 0
  · rw [h0]; decide
  · have := (Nat.log2_lt h0).mpr (Nat.lt_of_lt_of_le h (Nat.pow_le_pow_right (by decide) (show 64 ≤ 1920 by decide)))
    exact this
def spName : Sp := fun vs H Q _ => ∃ n : Nat, vs = [.int ((n : Nat) : Int)] ∧ ∀ z H', z.length ≤ 20 → Same H H' → Q (.str z) H'
theorem sc__law_name : FnScope ["_law_pick"] ["_law_pick"] (defScope s__law_name) := ⟨rfl, rfl, rfl, by decide +kernel, rfl, by decide +kernel, by decide +kernel⟩
theorem ok__law_name (T : Txt K mg) {f : Addr} {fd : FuncData} (N : Fn K mg "_law_name" s__law_name ["_law_pick"] f fd) : FnOk P w K mg base CX0 (1) f fd ["_law_pick"] (spName) := by
  refine N.fu.okB sc__law_name (fun vs H Q E h => ?_) (fun cdv A outer s H vs Q E hr h => ?_)
  · obtain ⟨n, rfl, _⟩ := h
    rfl
  · obtain ⟨n, rfl, q⟩ := h
    refine ⟨_, (bss_one (bs_ret (b_ix ix_seq (b_lst (ba_c b_str (ba_c b_str (ba_c b_str (ba_c b_str (ba_c b_str (ba_c b_str (ba_c b_str (ba_c b_str ba_nil rfl) rfl) rfl) rfl) rfl) rfl) rfl) rfl)) (b_op op_mod (bv 0) b_int) (fun _ _ => rfl)))), ?_⟩
    kas_types
    lcg_off
    rename_i p1 H1 n1 s1 g1
    obtain ⟨v, hv, hx⟩ := atI_in (xs := [.str (Str.ofString "journal"), .str (Str.ofString "tiers"), .str (Str.ofString "run0000001"), .str (Str.ofString "run0000002"), .str (Str.ofString "run000000"), .str (Str.ofString ""), .str (Str.ofString "journa"), .str (Str.ofString "x y")]) (i := ((n : Nat) : Int) % 8) (by omega) (by simp only [List.length_cons, List.length_nil]; omega)
    obtain ⟨z, rfl, hz⟩ : ∃ z, v = .str z ∧ z.length ≤ 20 := by
      simp only [List.mem_cons, List.not_mem_nil, or_false] at hv
      rcases hv with h | h | h | h | h | h | h | h <;> exact ⟨_, h, by decide +kernel⟩
    refine rd_ixL (SqL.of g1) hx ?_
    exact q z _ hz s1
theorem name_use {H : Hp} {Q : VK} {E : XK} {i : Int} (n : Nat) (hi : i = (n : Int)) (q : ∀ z H', z.length ≤ 20 → Same H H' → Q (.str z) H') : spName [.int i] H Q E := ⟨n, by rw [hi], q⟩
def spTextL : Sp := fun vs H Q _ => ∃ a b : Int, vs = [.int a, .int b] ∧ ∀ z H', z.length ≤ 100 → Same H H' → Q (.str z) H'
theorem sc__law_text : FnScope ["_law_cell", "_law_k", "_law_pick"] ["_law_cell", "_law_k"] (defScope s__law_text) := ⟨rfl, rfl, rfl, by decide +kernel, rfl, by decide +kernel, by decide +kernel⟩
theorem ok__law_text (T : Txt K mg) {f : Addr} {fd : FuncData} (N : Fn K mg "_law_text" s__law_text ["_law_cell", "_law_k"] f fd) : FnOk P w K mg base CX0 (2) f fd ["_law_cell", "_law_k"] (spTextL) := by
  obtain ⟨_, _, N__law_mixed⟩ := T.f__law_mixed
  have G__law_mixed := ok__law_mixed (P := P) (w := w) (base := base) T N__law_mixed 
  refine N.fu.okB sc__law_text (fun vs H Q E h => ?_) (fun cdv A outer s H vs Q E hr h => ?_)
  · obtain ⟨a, b, rfl, _⟩ := h
    rfl
  · obtain ⟨a, b, rfl, q⟩ := h
    refine ⟨_, (bss_cons (bs_set (i := 2) sc__law_text.nd rfl (by first | exact Or.inl rfl | exact Or.inr rfl) (b_f N__law_mixed G__law_mixed (hr.mono (by first | decide | omega)) (ba_c (bv 0) (ba_c (bv 1) ba_nil rfl) rfl)))
    (bss_one (bs_ret (b_ix ix_seq (b_lst (ba_c b_str (ba_c b_str (ba_c (b_op o_mul b_str (b_op op_mod (b_op op_fdiv (bv 2) b_int) b_int)) (ba_c (b_op o_add (b_op o_add b_str (b_t c_str T.b_str (by kernel_rfl) (ba_c (bv 2) ba_nil rfl))) b_str) (ba_c (b_op o_add (b_t c_str T.b_str (by kernel_rfl) (ba_c (bv 2) ba_nil rfl)) b_str) (ba_c b_str ba_nil rfl) rfl) rfl) rfl) rfl) rfl)) (b_op op_mod (bv 2) b_int) (fun _ _ => rfl))))), ?_⟩
    kas_types
    lcg_off
    refine mixed_use ?_
    obtain ⟨m0, m1⟩ := mixed_bound a b
    generalize mixed a b = pk at *
    lcg_off
    have a0 := Int.emod_nonneg (pk / 8) (show (30 : Int) ≠ 0 by decide)
    have a1 := Int.emod_lt_of_pos (pk / 8) (show (0 : Int) < 30 by decide)
    refine rd_mulS (mulOk_small (by decide +kernel) (by omega) (by omega)) ?_
    have l1 : (Txt.mul (Str.ofString "k") (pk / 8 % 30)).length ≤ 30 := by rw [len_list, mul_k_list, List.length_replicate]; omega
    generalize Txt.mul (Str.ofString "k") (pk / 8 % 30) = zk at *
    obtain ⟨n, rfl⟩ : ∃ n : Nat, pk = (n : Int) := ⟨pk.toNat, by omega⟩
    have ln : (numT n).length ≤ 10 := numT_le (k := 10) (by omega) (by decide)
    have lp : (Str.ofString "put ").length = 4 := by decide +kernel
    have lb : (Str.ofString "\n").length = 1 := by decide +kernel
    have le : (Str.ofString "\nend\n\n").length = 6 := by decide +kernel
    lcg_off
    refine rd_str (log_small _ (by omega)) ?_
    lcg_off
    rw [numT_d54]
    refine rd_addS (by rw [sizeLine_eq]; omega) ?_
    lcg_off
    refine rd_addS (by rw [la, sizeLine_eq]; omega) ?_
    lcg_off
    refine rd_str (log_small _ (by omega)) ?_
    lcg_off
    rw [numT_d54]
    refine rd_addS (by rw [sizeLine_eq]; omega) ?_
    lcg_off
    rename_i p1 H1 n1 s1 g1
    obtain ⟨v, hv, hx⟩ := atI_in (xs := [.str (Str.ofString ""), .str (Str.ofString "a"), .str zk, .str (Str.ofString "put " ++ numT n ++ Str.ofString "\n"), .str (numT n ++ Str.ofString "\nend\n\n"), .str (Str.ofString " ")]) (i := ((n : Nat) : Int) % 6) (by omega) (by simp only [List.length_cons, List.length_nil]; omega)
    obtain ⟨z, rfl, hz⟩ : ∃ z, v = .str z ∧ z.length ≤ 100 := by
      simp only [List.mem_cons, List.not_mem_nil, or_false] at hv
      rcases hv with h | h | h | h | h | h
      · exact ⟨_, h, by decide +kernel⟩
      · exact ⟨_, h, by decide +kernel⟩
      · exact ⟨_, h, by omega⟩
      · exact ⟨_, h, by rw [la, la]; omega⟩
      · exact ⟨_, h, by rw [la]; omega⟩
      · exact ⟨_, h, by decide +kernel⟩
    refine rd_ixL (SqL.of g1) hx ?_
    exact q z _ hz s1
theorem textL_use {H : Hp} {Q : VK} {E : XK} {a b : Int} (q : ∀ z H', z.length ≤ 100 → Same H H' → Q (.str z) H') : spTextL [.int a, .int b] H Q E := ⟨a, b, rfl, q⟩

/-! ### one step of the law -/
def newM (m : List (Key × V)) (kd : Nat) (nm tx : Str) : List (Key × V) := if kd = 0 then putK m (.inr nm) (.str tx) else if kd = 1 then addM m nm tx else dropK m (.inr nm)
theorem at_none {d : DS} (h : d.stop = none) : atS d = false := by unfold atS; rw [h]
def spStep0 (c : Cs) : Sp := fun vs H Q _ => ∃ a t d kd nm tx s, vs = [.ref a, .int ((kd : Nat) : Int), .str nm, .str tx] ∧ At c H a t d ∧ d.stop = none ∧ kd ≤ 2 ∧ tx.length ≤ 100 ∧ okM s d.m ∧ s ≤ 1000 ∧
  (kd = 2 → (valV d.m (.inr nm)).isSome = false → ∀ H', Same H H' → Q (.str (Str.ofString "no file")) H') ∧
  ((kd = 2 → (valV d.m (.inr nm)).isSome = true) → ∀ H', At c H' a t { d with m := newM d.m kd nm tx, done := d.done + 1 } → Chg a t H H' → Q .non H')
theorem sc__law_step : FnScope ["_law_disk", "_law_kind", "_law_name_here", "_law_text_here", "e"] ["_law_disk", "_law_kind", "_law_name_here", "_law_text_here"] (defScope s__law_step) := ⟨rfl, rfl, rfl, by decide +kernel, rfl, by decide +kernel, by decide +kernel⟩
theorem ok__law_step (T : Txt K mg) {c : Cs} (Z : Cl K mg c) {f : Addr} {fd : FuncData} (N : Fn K mg "_law_step" s__law_step ["_law_disk", "_law_kind", "_law_name_here", "_law_text_here"] f fd) : FnOk P w K mg base CX0 (5) f fd ["_law_disk", "_law_kind", "_law_name_here", "_law_text_here"] (spStep0 c) := by
  obtain ⟨_, _, F_Disk_take_off, ⟨_, hv0_Disk_take_off, hb0_Disk_take_off⟩⟩ := Z.i_Disk_take_off
  have G_Disk_take_off := ok_Disk_take_off (P := P) (w := w) (base := base) T Z F_Disk_take_off
  obtain ⟨_, _, F_Disk_write, ⟨_, hv0_Disk_write, hb0_Disk_write⟩⟩ := Z.i_Disk_write
  have G_Disk_write := ok_Disk_write (P := P) (w := w) (base := base) T Z F_Disk_write
  obtain ⟨_, _, F_Disk_lengthen, ⟨_, hv0_Disk_lengthen, hb0_Disk_lengthen⟩⟩ := Z.i_Disk_lengthen
  have G_Disk_lengthen := ok_Disk_lengthen (P := P) (w := w) (base := base) T Z F_Disk_lengthen
  refine N.fu.okB sc__law_step (fun vs H Q E h => ?_) (fun cdv A outer s H vs Q E hr h => ?_)
  · obtain ⟨a, t, d, kd, nm, tx, s, rfl, _⟩ := h
    rfl
  · obtain ⟨a, t, d, kd, nm, tx, s, rfl, hA, hst, h2, hl, hm, hn, q2, q3⟩ := h
    have hat := at_none hst
    refine ⟨_, (bss_one (bs_try rfl rfl rfl (fun pins EX => (bss_cons (bs_if (bt_cmp (o_eqD (room100 hr)) (bv 1) b_int (nomark _))
      (bss_one (bs_ret (b_mS (tried_passes rfl) Z.c_Disk Z.me_Disk_write G_Disk_write hb0_Disk_write hv0_Disk_write (hr.mono (by first | decide | omega)) (bv 0) (ba_c (bv 2) (ba_c (bv 3) ba_nil rfl) rfl))))
      bss_nil)
    (bss_cons (bs_if (bt_cmp (o_eqD (room100 hr)) (bv 1) b_int (nomark _))
      (bss_one (bs_ret (b_mS (tried_passes rfl) Z.c_Disk Z.me_Disk_lengthen G_Disk_lengthen hb0_Disk_lengthen hv0_Disk_lengthen (hr.mono (by first | decide | omega)) (bv 0) (ba_c (bv 2) (ba_c (bv 3) ba_nil rfl) rfl))))
      bss_nil)
    (bss_one (bs_ret (b_mS (tried_passes rfl) Z.c_Disk Z.me_Disk_take_off G_Disk_take_off hb0_Disk_take_off hv0_Disk_take_off (hr.mono (by first | decide | omega)) (bv 0) (ba_c (bv 2) ba_nil rfl))))))) (bh_as rfl rfl sc__law_step.nd (i := 4) rfl rfl Z.m_TierError Z.tb_TierError (fun C ea oe dc hc hdc hn => (bss_cons (bs_if (bt_val (b_b (c_isH hc) T.b_isinstance (by kernel_rfl) (ba_c (bv 4) (ba_c (b_gl (v := .ref c.Stopped) ⟨_, Z.m_Stopped, rfl⟩) ba_nil rfl) rfl)) (fun _ => rfl))
      (bss_one (bs_ret b_str))
      bss_nil)
    (bss_one (bs_ret (b_ix (ix_seqK (K := K) rfl) (b_lst (ba_c b_str (ba_c b_str ba_nil rfl) rfl)) (b_t c_intB T.b_int (by kernel_rfl) (ba_c (b_and (b_b (c_isH hc) T.b_isinstance (by kernel_rfl) (ba_c (bv 4) (ba_c (b_gl (v := .ref c.NoFile) ⟨_, Z.m_NoFile, rfl⟩) ba_nil rfl) rfl)) (b_one (b_cmp (o_eqD (by have h := room100 hr; exact h)) (be_xfldK (K := K) rfl (bv 4) (List.mem_cons_self) hc hdc hn) (bv 2) (nomark _)))) ba_nil rfl)) (fun _ _ => rfl)))))) bh_nil))), ?_⟩
    kas_types
    have hy : ClsY K c.NoFile := ⟨Z.g1_NoFile, Z.g2_NoFile, Z.g3_NoFile, Z.ha, Z.hn, Z.ht, Z.hm_NoFile, Z.kk_NoFile⟩
    match kd, h2 with
    | 0, _ =>
      lcg_off
      refine ite_t rfl ?_
      lcg_off
      refine rd_meth hA rfl ?_
      lcg_off
      refine write_use hA (by have := hm.1; omega) (fun hs H1 hA1 c1 => ?_) (fun hs dx H1 hA1 c1 hd => by rw [hat] at hs; cases hs)
      lcg_off
      exact q3 (fun h => by cases h) H1 hA1 c1
    | 1, _ =>
      lcg_off
      refine ite_f (by decide) ?_
      lcg_off
      refine ite_t rfl ?_
      lcg_off
      refine rd_meth hA rfl ?_
      lcg_off
      refine len_use hA hm hn hl (fun hs H1 hA1 c1 => ?_) (fun hs dx H1 hA1 c1 hd => by rw [hat] at hs; cases hs)
      lcg_off
      exact q3 (fun h => by cases h) H1 hA1 c1
    | 2, _ =>
      lcg_off
      refine ite_f (by decide) ?_
      lcg_off
      refine ite_f (by decide) ?_
      lcg_off
      refine rd_meth hA rfl ?_
      lcg_off
      refine offE_use hA (fun hs hno dx H1 s1 hd => ?_) (fun hs hso H1 hA1 c1 => ?_) (fun hs dx H1 hA1 c1 hd => by rw [hat] at hs; cases hs)
      · refine ⟨_, rfl, fun ea hea => ⟨true, Z.tt, ?_⟩⟩
        rw [if_pos rfl]
        simp only [List.set]
        lcg_off
        refine rd_isX1 hy rfl Z.o1 ?_
        lcg_off
        rename_i pl H2 nl s2 gl
        refine rd_isX1 hy rfl Z.o2 ?_
        lcg_off
        refine ⟨rfl, ⟨Z.g1_NoFile, Z.g2_NoFile, Z.g3_NoFile, Z.g4_NoFile, Z.hf_NoFile⟩, dx, _, _, rfl, s2 _ _ hd, rfl, ?_⟩
        lcg_off
        refine rd_intB ?_
        rw [decide_eq_true rfl]
        refine rd_ixL (SqL.of gl) (atI_nat (j := 1) (v := .str (Str.ofString "no file")) rfl) ?_
        exact q2 rfl hno H2 (s1.trans s2)
      · lcg_off
        exact q3 (fun _ => hso) H1 hA1 c1
theorem step0_use {c : Cs} {H : Hp} {Q : VK} {E : XK} {a t : Addr} {d : DS} {kd : Nat} {nm tx : Str} {i : Int} {s : Nat} (hi : i = (kd : Int)) (h : At c H a t d) (hst : d.stop = none) (h2 : kd ≤ 2) (hl : tx.length ≤ 100) (hm : okM s d.m) (hn : s ≤ 1000)
    (q2 : kd = 2 → (valV d.m (.inr nm)).isSome = false → ∀ H', Same H H' → Q (.str (Str.ofString "no file")) H')
    (q3 : (kd = 2 → (valV d.m (.inr nm)).isSome = true) → ∀ H', At c H' a t { d with m := newM d.m kd nm tx, done := d.done + 1 } → Chg a t H H' → Q .non H') :
    spStep0 c [.ref a, .int i, .str nm, .str tx] H Q E := ⟨a, t, d, kd, nm, tx, s, by rw [hi], h, hst, h2, hl, hm, hn, q2, q3⟩
/-! ### the text that is told -/
def toldO (m : List (Key × V)) (n : Str) : D := match valV m (.inr n) with
  | some (.str z) => .str z
  | _ => .lst [.str (Str.ofString "other")]
theorem toldO_dep (m : List (Key × V)) (n : Str) : (toldO m n).dep ≤ 100 := by
  unfold toldO
  split <;> simp [D.dep, D.deps]
def spToldO (c : Cs) : Sp := fun vs H Q _ => ∃ a t d n s, vs = [.ref a, .str n] ∧ At c H a t d ∧ okM s d.m ∧ ∀ v H', Same H H' → Rep H' (toldO d.m n) v → Q v H'
theorem sc__law_told : FnScope ["_law_disk", "_law_name_here", "e"] ["_law_disk", "_law_name_here"] (defScope s__law_told) := ⟨rfl, rfl, rfl, by decide +kernel, rfl, by decide +kernel, by decide +kernel⟩
theorem ok__law_told (T : Txt K mg) {c : Cs} (Z : Cl K mg c) {f : Addr} {fd : FuncData} (N : Fn K mg "_law_told" s__law_told ["_law_disk", "_law_name_here"] f fd) : FnOk P w K mg base CX0 (5) f fd ["_law_disk", "_law_name_here"] (spToldO c) := by
  obtain ⟨_, _, F_Disk_text, ⟨_, hv0_Disk_text, hb0_Disk_text⟩⟩ := Z.i_Disk_text
  have G_Disk_text := ok_Disk_text (P := P) (w := w) (base := base) T Z F_Disk_text
  refine N.fu.okB sc__law_told (fun vs H Q E h => ?_) (fun cdv A outer s H vs Q E hr h => ?_)
  · obtain ⟨a, t, d, n, s, rfl, _⟩ := h
    rfl
  · obtain ⟨a, t, d, n, s, rfl, hA, hm, q⟩ := h
    refine ⟨_, (bss_one (bs_try rfl rfl rfl (fun pins EX => (bss_one (bs_ret (b_mS (tried_passes rfl) Z.c_Disk Z.me_Disk_text G_Disk_text hb0_Disk_text hv0_Disk_text (hr.mono (by first | decide | omega)) (bv 0) (ba_c (bv 1) ba_nil rfl))))) (bh_as rfl rfl sc__law_told.nd (i := 2) rfl rfl Z.m_NoFile Z.tb_NoFile (fun C ea oe dc hc hdc hn => (bss_one (bs_ret (b_slice (s_anyK (K := K) rfl) (b_lst (ba_c b_str ba_nil rfl)) (bo_some (b_t c_intB T.b_int (by kernel_rfl) (ba_c (b_cmp (o_neD (by have h := room100 hr; exact h)) (be_xfldK (K := K) rfl (bv 2) (List.mem_cons_self) hc hdc hn) (bv 1) (nomark _)) ba_nil rfl))) bo_none)))) bh_nil))), ?_⟩
    kas_types
    lcg_off
    refine rd_meth hA rfl ?_
    lcg_off
    refine tx_use hA (fun v hv => ?_) (fun hv dx H1 s1 hd => ?_)
    · obtain ⟨z, rfl, _⟩ := hm.at hv
      refine q _ _ (Same.refl _) ?_
      unfold toldO
      rw [hv]
      exact Rep.str'
    · refine ⟨_, rfl, fun ea hea => ⟨true, Z.kk_NoFile, ?_⟩⟩
      rw [if_pos rfl]
      simp only [List.set]
      lcg_off
      rename_i pl H2 nl s2 gl
      refine ⟨rfl, ⟨Z.g1_NoFile, Z.g2_NoFile, Z.g3_NoFile, Z.g4_NoFile, Z.hf_NoFile⟩, dx, _, _, rfl, s2 _ _ hd, rfl, ?_⟩
      lcg_off
      refine rd_intB ?_
      rw [decide_eq_true rfl]
      lcg_off
      refine rd_slL (SqL.of gl) (fun p3 H3 n3 s3 g3 => ?_)
      refine q (.ref p3) H3 ((s1.trans s2).trans s3) ?_
      unfold toldO
      rw [hv]
      have e : cutV [V.str (Str.ofString "other")] (some (if (!true) = true then 1 else 0)) none = [V.str (Str.ofString "other")] := cutV_from (n := 0) _ (by decide)
      rw [e] at g3
      keq_rows
theorem toldO_use {c : Cs} {H : Hp} {Q : VK} {E : XK} {a t : Addr} {d : DS} {n : Str} {s : Nat} (h : At c H a t d) (hm : okM s d.m) (q : ∀ v H', Same H H' → Rep H' (toldO d.m n) v → Q v H') : spToldO c [.ref a, .str n] H Q E := ⟨a, t, d, n, s, rfl, h, hm, q⟩
/-! ### the keys are texts -/
def okK (m : List (Key × V)) : Prop := ∀ q ∈ m, ∃ z, q.1 = .inr z
theorem okK.put {m : List (Key × V)} (h : okK m) (n : Str) (v : V) : okK (putK m (.inr n) v) := by
  unfold putK
  split
  · intro q hq
    obtain ⟨r, hr, rfl⟩ := List.mem_map.mp hq
    by_cases e : r.1 = .inr n
    · rw [if_pos e]; exact ⟨n, e⟩
    · rw [if_neg e]; exact h r hr
  · intro q hq
    rcases List.mem_append.mp hq with hq | hq
    · exact h q hq
    · rw [List.mem_singleton.mp hq]; exact ⟨n, rfl⟩
theorem okK.drop {m : List (Key × V)} (h : okK m) (k : Key) : okK (dropK m k) := fun q hq => h q (List.mem_filter.mp hq).1
theorem okK.new {m : List (Key × V)} (h : okK m) (kd : Nat) (nm tx : Str) : okK (newM m kd nm tx) := by
  unfold newM
  split
  · exact h.put _ _
  · split
    · exact h.put _ _
    · exact h.drop _
theorem okK.keys : ∀ {m : List (Key × V)}, okK m → ∃ zs : List Str, m.map (·.1) = zs.map Sum.inr
  | [], _ => ⟨[], rfl⟩
  | q :: m, h => by
    obtain ⟨z, hz⟩ := h q List.mem_cons_self
    obtain ⟨zs, e⟩ := okK.keys (m := m) (fun r hr => h r (List.mem_cons_of_mem _ hr))
    exact ⟨z :: zs, by rw [List.map_cons, List.map_cons, hz, e]⟩
theorem okM.new {s : Nat} {m : List (Key × V)} (h : okM s m) (kd : Nat) (nm : Str) {tx : Str} (hx : tx.length ≤ 100) : okM (s + 1) (newM m kd nm tx) := by
  unfold newM
  split
  · exact h.put _ (by omega)
  · split
    · exact h.add _ hx
    · exact (h.drop _).mono (Nat.le_succ _)

/-! ### the files that are handed in -/
def spFs : Sp := fun vs H Q _ => ∃ cell : Int, vs = [.int cell] ∧ ∀ p H' m, H p = none → Same H H' → H' p = some (.dK m) → okM 3 m → okK m → Q (.ref p) H'
theorem sc__law_files : FnScope ["_law_cell", "_law_found", "_law_k", "_law_pick"] ["_law_cell"] (defScope s__law_files) := ⟨rfl, rfl, rfl, by decide +kernel, rfl, by decide +kernel, by decide +kernel⟩
theorem ok__law_files (T : Txt K mg) {f : Addr} {fd : FuncData} (N : Fn K mg "_law_files" s__law_files ["_law_cell"] f fd) : FnOk P w K mg base CX0 (3) f fd ["_law_cell"] (spFs) := by
  obtain ⟨_, _, N__law_mixed⟩ := T.f__law_mixed
  have G__law_mixed := ok__law_mixed (P := P) (w := w) (base := base) T N__law_mixed 
  obtain ⟨_, _, N__law_text⟩ := T.f__law_text
  have G__law_text := ok__law_text (P := P) (w := w) (base := base) T N__law_text 
  obtain ⟨_, _, N__law_name⟩ := T.f__law_name
  have G__law_name := ok__law_name (P := P) (w := w) (base := base) T N__law_name 
  refine N.fu.okB sc__law_files (fun vs H Q E h => ?_) (fun cdv A outer s H vs Q E hr h => ?_)
  · obtain ⟨cell, rfl, _⟩ := h
    rfl
  · obtain ⟨cell, rfl, q⟩ := h
    refine ⟨_, (bss_cons (bs_set (i := 1) sc__law_files.nd rfl (by first | exact Or.inl rfl | exact Or.inr rfl) b_dnewK)
    (bss_cons (bs_for PassesOwn.never rfl (bi_r1 T.b_range (ba_c (b_op op_mod (bv 0) b_int) ba_nil rfl)) (bg_name (i := 2) sc__law_files.nd rfl (by first | exact Or.inl rfl | exact Or.inr rfl))
      (bss_cons (bs_set (i := 3) sc__law_files.nd rfl (by first | exact Or.inl rfl | exact Or.inr rfl) (b_f N__law_mixed G__law_mixed (hr.mono (by first | decide | omega)) (ba_c (bv 0) (ba_c (b_op o_add (bv 2) b_int) ba_nil rfl) rfl)))
    (bss_one (bs_dput (hu_of hr) (bv 1) (b_f N__law_name G__law_name (hr.mono (by first | decide | omega)) (ba_c (bv 3) ba_nil rfl)) (b_f N__law_text G__law_text (hr.mono (by first | decide | omega)) (ba_c (bv 0) (ba_c (b_op o_add (bv 2) b_int) ba_nil rfl) rfl))))))
    (bss_one (bs_ret (bv 1))))), ?_⟩
    kas_types
    lcg_off
    refine fun p np => ?_
    have s0 : Same H (upd H p (.dK [])) := same_new np
    have g0 : upd H p (.dK []) p = some (.dK []) := upd_same
    generalize upd H p (.dK []) = G0 at *
    lcg_off
    refine forR (fun i σ G => ∃ (m : List (Key × V)) (o2 o3 : Option V), σ = [some (.int cell), some (.ref p), o2, o3] ∧ Same H G ∧ G p = some (.dK m) ∧ okM i m ∧ okK m) ⟨[], _, _, rfl, s0, g0, ⟨Nat.le_refl _, fun q hq => (nomatch hq)⟩, fun q hq => (nomatch hq)⟩ (fun i σ G hi h => ?_) (fun σ G h => ?_)
    · obtain ⟨m, o2, o3, rfl, sG, gp, hm, hk⟩ := h
      lcg_off
      refine mixed_use ?_
      obtain ⟨m0, m1⟩ := mixed_bound cell (0 + (i : Int) + 60)
      generalize mixed cell (0 + (i : Int) + 60) = pk at *
      lcg_off
      refine textL_use (fun tx G1 hx s1 => ?_)
      lcg_off
      refine name_use pk.toNat (by omega) (fun nm G2 hz s2 => ?_)
      have gp2 := (s1.trans s2) _ _ gp
      refine ⟨p, _, rfl, DPut.k (k := .inr nm) gp2 (by have := hm.1; rw [sizeLine_eq]; omega), ?_⟩
      exact ⟨putK m (.inr nm) (.str tx), _, _, rfl, same_updL ((sG.trans s1).trans s2) np, upd_same, hm.put _ (by omega), hk.put _ _⟩
    · obtain ⟨m, o2, o3, rfl, sG, gp, hm, hk⟩ := h
      lcg_off
      exact q p G m np sG gp (hm.mono (by omega)) hk
theorem fs_use {H : Hp} {Q : VK} {E : XK} {cell : Int} (q : ∀ p H' m, H p = none → Same H H' → H' p = some (.dK m) → okM 3 m → okK m → Q (.ref p) H') : spFs [.int cell] H Q E := ⟨cell, rfl, q⟩

end
end T50



set_option Elab.async false
set_option linter.all false
set_option maxRecDepth 100000
set_option maxHeartbeats 4000000
namespace T50
open PySem L2

local macro_rules | `(tactic| lcg_src) => `(tactic| first | with_reducible assumption | ((with_reducible refine' Same.get ?s ?e); (case s => with_reducible assumption); (case e => lcg_src)))
local macro_rules | `(tactic| lcg_sub) => `(tactic| first | with_reducible assumption | with_reducible exact Same.refl _ | ((with_reducible refine' Same.tr ?s ?e); (case s => with_reducible assumption); (case e => lcg_sub)))
local macro_rules | `(tactic| keq_rows) => `(tactic| first | with_reducible assumption | with_reducible exact Rep.int' | with_reducible exact Rep.str' | with_reducible exact Rep.bl' | with_reducible exact Rep.non' | ((with_reducible refine' Rep.same ?s ?e); (case s => with_reducible assumption); (case e => keq_rows)) | ((with_reducible refine' Rep.mkT ?c ?_); (case c => lcg_src); keq_hits) | ((with_reducible refine' Rep.mkL ?c ?_); (case c => lcg_src); keq_hits) | ((with_reducible refine' Rep.mkD ?c); (case c => lcg_src)))
local macro_rules | `(tactic| keq_hits) => `(tactic| first | with_reducible assumption | with_reducible exact Reps.nil' | ((with_reducible refine' Reps.cons' ?c ?_); (case c => keq_rows); keq_hits) | ((with_reducible refine' Reps.same ?s ?e); (case s => with_reducible assumption); (case e => keq_hits)))
local macro_rules | `(tactic| tlg_ne) => `(tactic| first | with_reducible assumption | ((with_reducible refine' SqL.of ?c); (case c => lcg_src)) | ((with_reducible refine' SqT.of ?c); (case c => lcg_src)) | ((with_reducible refine' SqL.same ?s ?e); (case s => with_reducible assumption); (case e => tlg_ne)))
local macro_rules | `(tactic| kpc_turns) => `(tactic| first | decide | omega | (constructor <;> first | decide | omega))
local macro_rules | `(tactic| kas_types) => `(tactic| simp only [cxK, cxK', compK, triedK, heldXK, start_cc, start_cn, start_nn])
local macro_rules | `(tactic| kpt_turns) => `(tactic| first
  | refine rd_go ?_
  | ((with_reducible refine' rd_mod ?c ?_); (case c => kpc_turns))
  | ((with_reducible refine' rd_fdiv ?c ?_); (case c => kpc_turns))
  | ((with_reducible refine' rd_mulI ?c ?_); (case c => first | exact .inl (by kpc_turns) | exact .inr (by kpc_turns)))
  | ((with_reducible refine' rd_mkT ?c ?_); (case c => (simp only [List.length_cons, List.length_nil]; decide)); intro _ _ _ _)
  | ((with_reducible refine' rd_mkL ?c ?_); (case c => (simp only [List.length_cons, List.length_nil]; decide)); intro _ _ _ _ _)
  | ((with_reducible refine' rd_ixT ?c ?d ?_); (case c => tlg_ne); (case d => exact rfl))
  | ((with_reducible refine' rd_ixL ?c ?d ?_); (case c => tlg_ne); (case d => exact rfl))
  | ((with_reducible refine' rd_isT ?c ?_); (case c => lcg_src))
  | ((with_reducible refine' rd_isL ?c ?_); (case c => lcg_src))
  | ((with_reducible refine' rd_isD ?c ?_); (case c => lcg_src))
  | ((with_reducible refine' rd_lenT ?c ?_); (case c => tlg_ne))
  | ((with_reducible refine' rd_lenL ?c ?_); (case c => tlg_ne))
  | ((with_reducible refine' rd_lenS ?c ?_); (case c => first | assumption | (show _ ≤ 16777216; decide) | omega))
  | ((with_reducible refine' rd_slT ?c ?d ?_); (case c => tlg_ne); (case d => simp [HT.sIx]; done); intro _ _ _ h; (simp [cutV, HT.sIx] at h))
  | ((with_reducible refine' rd_bmL ?c ?_); (case c => lcg_src))
  | ((with_reducible refine' rd_shr ?c ?_); (case c => omega))
  | ((with_reducible refine' rd_dnew ?_); intro _ _ _ _ _)
  | ((with_reducible refine' rd_pow ?c ?_); (case c => kpc_turns))
  | ((with_reducible refine' rd_exL ?c ?_); (case c => tlg_ne))
  | ((with_reducible refine' rd_exT ?c ?_); (case c => tlg_ne))
  | ((with_reducible refine' rd_exr1 ?c ?_); (case c => kpc_turns))
  | ((with_reducible refine' rd_exr2 ?c ?_); (case c => refine ⟨?_, ?_, ?_, ?_⟩ <;> first | decide | omega))
  | ((with_reducible refine' rd_gTup ?c ?d ?_); (case c => tlg_ne); (case d => exact rfl))
  | ((with_reducible refine' rd_listL ?c ?_); (case c => tlg_ne); intro _ _ _ _ _)
  | ((with_reducible refine' rd_listT ?c ?_); (case c => tlg_ne); intro _ _ _ _ _)
  | ((with_reducible refine' rd_addL ?c ?d ?e ?_); (case c => lcg_src); (case d => lcg_src); (case e => first | (simp only [List.length_cons, List.length_nil]; decide) | (simp only [List.length_cons, List.length_nil, List.length_append, sizeLine_eq]; omega)); intro _ _ _ _ h; (try simp only [List.cons_append, List.nil_append] at h))
  | ((with_reducible refine' rd_addT ?c ?d ?f ?e ?_); (case c => lcg_src); (case d => lcg_src); (case f => (intro h; cases h)); (case e => first | (simp only [List.length_cons, List.length_nil]; decide) | (simp only [List.length_cons, List.length_nil, List.length_append, sizeLine_eq]; omega)); intro _ _ _ h; (try simp only [List.cons_append, List.nil_append] at h)))
local macro_rules | `(tactic| lcg_off) => `(tactic| repeat kpt_turns)
local macro_rules | `(tactic| kaf_pre) => `(tactic| ((with_reducible refine' rd_menu ?c ?a ?b ?_); (case c => tlg_ne); (case a => first | exact Int.emod_nonneg _ (by decide) | omega); (case b => first | exact Int.emod_lt_of_pos _ (by decide) | (simp only [List.length_cons, List.length_nil]; omega))))
local macro_rules | `(tactic| kaf_suf) => `(tactic| ((with_reducible refine' rd_pick ?c ?a ?b ?_); (case c => tlg_ne); (case a => first | exact Int.emod_nonneg _ (by decide) | omega); (case b => first | exact Int.emod_lt_of_pos _ (by decide) | (simp only [List.length_cons, List.length_nil]; omega))))
section
variable {P : Program} {w : World} {K : PySem.W.Frag} {mg : Str → Option Value} {base : Heap}
theorem rep_txts {H : Hp} : ∀ ys : List Str, Reps H (ys.map D.str) (ys.map V.str)
  | [] => Reps.nil'
  | y :: ys => Reps.cons' Rep.str' (rep_txts ys)
theorem deps_txts : ∀ ys : List Str, D.deps (ys.map D.str) ≤ 1
  | [] => by simp [D.deps]
  | y :: ys => by
    have := deps_txts ys
    simp only [List.map_cons, D.deps, D.dep]
    omega
theorem rd_neLS {H : Hp} {Q : VK} {p p' : Addr} (ys : List Str) (h1 : H p = some (.lst (ys.map V.str))) (h2 : H p' = some (.lst (ys.map V.str))) (q : Q (.bl false) H) : rNeD (.ref p) (.ref p') H Q := by
  refine ⟨.lst (ys.map D.str), .lst (ys.map D.str), Rep.mkL h1 (rep_txts ys), Rep.mkL h2 (rep_txts ys), ?_, ?_, by rw [pyEq_refl]; exact q⟩
  all_goals (have := deps_txts ys; simp only [D.dep]; omega)
theorem rd_neB {H : Hp} {Q : VK} {b : Bool} (q : Q (.bl false) H) : rNeD (.bl b) (.bl b) H Q := ⟨.bl b, .bl b, Rep.bl', Rep.bl', by simp [D.dep], by simp [D.dep], by rw [pyEq_refl]; exact q⟩

/-! ### what is held -/
def S4 (a t p ph : Addr) (b : Addr) : Prop := b = a ∨ b = t ∨ b = p ∨ b = ph
def Held1 (S : Addr → Prop) (G : Hp) (v : V) : Prop := ∃ b p q, v = .ref b ∧ ¬ S b ∧ ¬ S p ∧ ¬ S q ∧ G b = some (.tup [.ref p, .ref q]) ∧ ((∃ ys : List Str, G p = some (.lst (ys.map V.str ++ [.non])) ∧ G q = some (.lst (ys.map V.str ++ [.non]))) ∨ ∃ kvs, G p = some (.dK kvs) ∧ G q = some (.dK kvs) ∧ txtK kvs)
def Held (S : Addr → Prop) (G : Hp) (hs : List V) : Prop := ∀ v ∈ hs, Held1 S G v
theorem Held.keep {S : Addr → Prop} {G G' : Hp} {hs : List V} (h : Held S G hs) (k : ∀ b o, ¬ S b → G b = some o → G' b = some o) : Held S G' hs := fun v hv => by
  obtain ⟨b, p, q, e, n1, n2, n3, gb, h⟩ := h v hv
  refine ⟨b, p, q, e, n1, n2, n3, k _ _ n1 gb, ?_⟩
  rcases h with ⟨ys, h1, h2⟩ | ⟨kvs, h1, h2, h3⟩
  · exact .inl ⟨ys, k _ _ n2 h1, k _ _ n3 h2⟩
  · exact .inr ⟨kvs, k _ _ n2 h1, k _ _ n3 h2, h3⟩
theorem Held.snoc {S : Addr → Prop} {G : Hp} {hs : List V} {v : V} (h : Held S G hs) (h1 : Held1 S G v) : Held S G (hs ++ [v]) := fun u hu => by
  rcases List.mem_append.mp hu with h2 | h2
  · exact h u h2
  · rw [List.mem_singleton.mp h2]; exact h1
def KeepX (ph : Addr) (H H' : Hp) : Prop := ∀ b o, b ≠ ph → H b = some o → H' b = some o
theorem KeepX.of {ph : Addr} {H H' : Hp} (s : Same H H') : KeepX ph H H' := fun b o _ e => s b o e
theorem KeepX.trans {ph : Addr} {H H' H'' : Hp} (h : KeepX ph H H') (h' : KeepX ph H' H'') : KeepX ph H H'' := fun b o n e => h' b o n (h b o n e)
theorem KeepX.upd {ph : Addr} {H : Hp} {o : HO} : KeepX ph H (upd H ph o) := fun b _ n e => by rw [upd_ne n]; exact e
theorem At.keepX {c : Cs} {ph a t : Addr} {H H' : Hp} {d : DS} {hs : List V} (h : At c H a t d) (hp : H ph = some (.lst hs)) (k : KeepX ph H H') : At c H' a t d := by
  obtain ⟨⟨dx, h1⟩, h2⟩ := h
  exact ⟨⟨dx, k _ _ (fun z => by rw [z, hp] at h1; cases h1) h1⟩, k _ _ (fun z => by rw [z, hp] at h2; cases h2) h2⟩
theorem not_S4 {c : Cs} {H : Hp} {a t p ph b : Addr} {d : DS} {hs : List V} {m : List (Key × V)} (hA : At c H a t d) (hp : H p = some (.dK m)) (hh : H ph = some (.lst hs)) (hb : H b = none) : ¬ S4 a t p ph b := by
  obtain ⟨⟨dx, h1⟩, h2⟩ := hA
  rintro (rfl | rfl | rfl | rfl)
  · rw [h1] at hb; cases hb
  · rw [h2] at hb; cases hb
  · rw [hp] at hb; cases hb
  · rw [hh] at hb; cases hb
structure WayOk (c : Cs) (H : Hp) (a t p ph : Addr) (d : DS) (s : Nat) (hs : List V) : Prop where
  at_ : At c H a t d
  kept : H p = some (.dK d.m)
  ref : d.ref = false
  ok : okM s d.m
  few : s < 64
  keys : okK d.m
  held : H ph = some (.lst hs)
  all : Held (S4 a t p ph) H hs
theorem WayOk.keep {c : Cs} {H H' : Hp} {a t p ph : Addr} {d : DS} {s : Nat} {hs hs' : List V} (W : WayOk c H a t p ph d s hs) (k : KeepX ph H H') (h1 : H' ph = some (.lst hs')) (h2 : Held (S4 a t p ph) H' hs') : WayOk c H' a t p ph d s hs' :=
  ⟨W.at_.keepX W.held k, k _ _ (fun z => by have := W.kept; rw [z, W.held] at this; cases this) W.kept, W.ref, W.ok, W.few, W.keys, h1, h2⟩
theorem WayOk.same {c : Cs} {H H' : Hp} {a t p ph : Addr} {d : DS} {s : Nat} {hs : List V} (W : WayOk c H a t p ph d s hs) (k : Same H H') : WayOk c H' a t p ph d s hs := W.keep (.of k) (k _ _ W.held) (W.all.keep fun b o _ e => k b o e)
theorem held_new {c : Cs} {H G : Hp} {a t p ph p1 p4 pb : Addr} {d : DS} {s : Nat} {hs : List V} (W : WayOk c H a t p ph d s hs) (sG : Same H G) (n1 : H p1 = none) (n4 : H p4 = none) (gb : G pb = some (.tup [.ref p1, .ref p4]))
    (h : (∃ ys : List Str, G p1 = some (.lst (ys.map V.str ++ [.non])) ∧ G p4 = some (.lst (ys.map V.str ++ [.non]))) ∨ ∃ kvs, G p1 = some (.dK kvs) ∧ G p4 = some (.dK kvs) ∧ txtK kvs) :
    KeepX ph H (upd G ph (.lst (hs ++ [.ref pb]))) ∧ WayOk c (upd G ph (.lst (hs ++ [.ref pb]))) a t p ph d s (hs ++ [.ref pb]) := by
  have W' := W.same sG
  have k : KeepX ph G (upd G ph (.lst (hs ++ [.ref pb]))) := KeepX.upd
  have m1 := not_S4 W.at_ W.kept W.held n1
  have m4 := not_S4 W.at_ W.kept W.held n4
  have mb : ¬ S4 a t p ph pb := by
    obtain ⟨⟨dx, e1⟩, e2⟩ := W'.at_
    have e3 := W'.kept
    have e4 := W'.held
    rintro (rfl | rfl | rfl | rfl)
    · rw [e1] at gb; cases gb
    · rw [e2] at gb; cases gb
    · rw [e3] at gb; cases gb
    · rw [e4] at gb; cases gb
  have kS : ∀ b o, ¬ S4 a t p ph b → G b = some o → upd G ph (.lst (hs ++ [.ref pb])) b = some o := fun b o n e => k b o (fun z => n (.inr (.inr (.inr z)))) e
  refine ⟨(KeepX.of sG).trans k, W'.keep k upd_same ((W'.all.keep kS).snoc ⟨pb, p1, p4, rfl, mb, m1, m4, kS _ _ mb gb, ?_⟩)⟩
  rcases h with ⟨ys, h1, h2⟩ | ⟨kvs, h1, h2, h3⟩
  · exact .inl ⟨ys, kS _ _ m1 h1, kS _ _ m4 h2⟩
  · exact .inr ⟨kvs, kS _ _ m1 h1, kS _ _ m4 h2, h3⟩
def spWay (c : Cs) : Sp := fun vs H Q _ => ∃ a t p ph d s hs way nm, vs = [.ref a, .ref p, .int ((d.done : Nat) : Int), .int ((way : Nat) : Int), .str nm, .ref ph] ∧ WayOk c H a t p ph d s hs ∧ way ≤ 5 ∧ hs.length ≤ 1000 ∧
  ∀ H' hs', KeepX ph H H' → WayOk c H' a t p ph d s hs' → hs'.length ≤ hs.length + 1 → Q (.bl true) H'
theorem sc__law_way : FnScope ["_law_disk", "_law_kept", "_law_count", "_law_way_here", "_law_name_here", "_law_held_here", "_law_found"] ["_law_disk", "_law_kept", "_law_count", "_law_way_here", "_law_name_here", "_law_held_here"] (defScope s__law_way) := ⟨rfl, rfl, rfl, by decide +kernel, rfl, by decide +kernel, by decide +kernel⟩
theorem ok__law_way (T : Txt K mg) {c : Cs} (Z : Cl K mg c) {f : Addr} {fd : FuncData} (N : Fn K mg "_law_way" s__law_way ["_law_disk", "_law_kept", "_law_count", "_law_way_here", "_law_name_here", "_law_held_here"] f fd) : FnOk P w K mg base CX0 (6) f fd ["_law_disk", "_law_kept", "_law_count", "_law_way_here", "_law_name_here", "_law_held_here"] (spWay c) := by
  obtain ⟨_, _, N__law_told⟩ := T.f__law_told
  have G__law_told := ok__law_told (P := P) (w := w) (base := base) T Z N__law_told 
  obtain ⟨_, _, N__law_whole⟩ := T.f__law_whole
  have G__law_whole := ok__law_whole (P := P) (w := w) (base := base) T N__law_whole 
  obtain ⟨_, _, F_Disk_names, ⟨_, hv0_Disk_names, hb0_Disk_names⟩⟩ := Z.i_Disk_names
  have G_Disk_names := ok_Disk_names (P := P) (w := w) (base := base) T Z F_Disk_names
  obtain ⟨_, _, F_Disk_has_stopped, ⟨_, hv0_Disk_has_stopped, hb0_Disk_has_stopped⟩⟩ := Z.i_Disk_has_stopped
  have G_Disk_has_stopped := ok_Disk_has_stopped (P := P) (w := w) (base := base) T Z F_Disk_has_stopped
  obtain ⟨_, _, F_Disk_files, ⟨_, hv0_Disk_files, hb0_Disk_files⟩⟩ := Z.i_Disk_files
  have G_Disk_files := ok_Disk_files (P := P) (w := w) (base := base) T Z F_Disk_files
  obtain ⟨_, _, F_Disk_has, ⟨_, hv0_Disk_has, hb0_Disk_has⟩⟩ := Z.i_Disk_has
  have G_Disk_has := ok_Disk_has (P := P) (w := w) (base := base) T Z F_Disk_has
  obtain ⟨_, _, F_Disk_steps, ⟨_, hv0_Disk_steps, hb0_Disk_steps⟩⟩ := Z.i_Disk_steps
  have G_Disk_steps := ok_Disk_steps (P := P) (w := w) (base := base) T Z F_Disk_steps
  refine N.fu.okB sc__law_way (fun vs H Q E h => ?_) (fun cdv A outer s H vs Q E hr h => ?_)
  · obtain ⟨a, t, p, ph, d, s, hs, way, nm, rfl, _⟩ := h
    rfl
  · obtain ⟨a, t, p, ph, d, s, hs, way, nm, rfl, W, hw, hl, q⟩ := h
    have hA := W.at_
    have hp := W.kept
    have hh := W.held
    obtain ⟨zs, hz⟩ := W.keys.keys
    have hml := W.ok.1
    have hs64 := W.few
    refine ⟨_, (bss_cons (bs_if (bt_cmp (o_eqD (room100 hr)) (bv 3) b_int (nomark _))
      (bss_cons (bs_set (i := 6) sc__law_way.nd rfl (by first | exact Or.inl rfl | exact Or.inr rfl) (b_m0 Z.c_Disk Z.me_Disk_names G_Disk_names pass0 hb0_Disk_names hv0_Disk_names (hr.mono (by first | decide | omega)) (bv 0)))
    (bss_cons (bs_if (bt_w (bw_or (bt_not (bt_val (b_b c_isinst T.b_isinstance (by kernel_rfl) (ba_c (bv 6) (ba_c (b_ty (T := "list") T.b_list (by kernel_rfl)) ba_nil rfl) rfl)) (fun _ => rfl))) (bw_or1 (bt_cmp (o_neD (room100 hr)) (bv 6) (b_b c_sortS T.b_sorted (by kernel_rfl) (ba_c (b_t c_listD T.b_list (by kernel_rfl) (ba_c (bv 1) ba_nil rfl)) ba_nil rfl)) (nomark _)))))
      (bss_one (bs_ret b_bl))
      bss_nil)
    (bss_cons (bs_expr (bm_append (bv 6) (ba_c b_non ba_nil rfl)))
    (bss_one (bs_expr (bm_append (bv 5) (ba_c (b_tup (ba_c (bv 6) (ba_c (b_t c_list T.b_list (by kernel_rfl) (ba_c (bv 6) ba_nil rfl)) ba_nil rfl) rfl)) ba_nil rfl)))))))
      (bss_one (bs_if (bt_cmp (o_eqD (room100 hr)) (bv 3) b_int (nomark _))
      (bss_cons (bs_set (i := 6) sc__law_way.nd rfl (by first | exact Or.inl rfl | exact Or.inr rfl) (b_m0 Z.c_Disk Z.me_Disk_files G_Disk_files pass0 hb0_Disk_files hv0_Disk_files (hr.mono (by first | decide | omega)) (bv 0)))
    (bss_cons (bs_if (bt_w (bw_or (bt_not (bt_val (b_b c_isinst T.b_isinstance (by kernel_rfl) (ba_c (bv 6) (ba_c (b_ty (T := "dict") T.b_dict (by kernel_rfl)) ba_nil rfl) rfl)) (fun _ => rfl))) (bw_or1 (bt_cmp (o_neK (room100 hr)) (bv 6) (bv 1) (nomark _)))))
      (bss_one (bs_ret b_bl))
      bss_nil)
    (bss_cons (bs_dput (hu_of hr) (bv 6) b_str b_str)
    (bss_one (bs_expr (bm_append (bv 5) (ba_c (b_tup (ba_c (bv 6) (ba_c (b_t c_dictC T.b_dict (by kernel_rfl) (ba_c (bv 6) ba_nil rfl)) ba_nil rfl) rfl)) ba_nil rfl)))))))
      (bss_one (bs_if (bt_cmp (o_eqD (room100 hr)) (bv 3) b_int (nomark _))
      (bss_cons (bs_set (i := 6) sc__law_way.nd rfl (by first | exact Or.inl rfl | exact Or.inr rfl) (b_m Z.c_Disk Z.me_Disk_has G_Disk_has pass0 hb0_Disk_has hv0_Disk_has (hr.mono (by first | decide | omega)) (bv 0) (ba_c (bv 4) ba_nil rfl)))
    (bss_one (bs_ret (b_and (b_b c_isinst T.b_isinstance (by kernel_rfl) (ba_c (bv 6) (ba_c (b_ty (T := "bool") T.b_bool (by kernel_rfl)) ba_nil rfl) rfl)) (b_one (b_cmp (o_eqD (room100 hr)) (bv 6) (b_cmp (op_inK (room100 hr)) (bv 4) (bv 1) rfl) (nomark _)))))))
      (bss_one (bs_if (bt_cmp (o_eqD (room100 hr)) (bv 3) b_int (nomark _))
      (bss_one (bs_ret (b_cmp (o_eqD (room100 hr)) (b_f N__law_told G__law_told (hr.mono (by first | decide | omega)) (ba_c (bv 0) (ba_c (bv 4) ba_nil rfl) rfl)) (bm_dget2 (hu_of hr) (bv 1) (bv 4) (b_lst (ba_c b_str ba_nil rfl))) (nomark _))))
      (bss_one (bs_if (bt_cmp (o_eqD (room100 hr)) (bv 3) b_int (nomark _))
      (bss_one (bs_ret (b_and (b_f N__law_whole G__law_whole (hr.mono (by first | decide | omega)) (ba_c (b_m0 Z.c_Disk Z.me_Disk_steps G_Disk_steps pass0 hb0_Disk_steps hv0_Disk_steps (hr.mono (by first | decide | omega)) (bv 0)) ba_nil rfl)) (b_one (b_cmp (o_eqD (room100 hr)) (b_m0 Z.c_Disk Z.me_Disk_steps G_Disk_steps pass0 hb0_Disk_steps hv0_Disk_steps (hr.mono (by first | decide | omega)) (bv 0)) (bv 2) (nomark _))))))
      bss_nil)))))))))
    (bss_one (bs_ret (b_cmp o_is (b_m0 Z.c_Disk Z.me_Disk_has_stopped G_Disk_has_stopped pass0 hb0_Disk_has_stopped hv0_Disk_has_stopped (hr.mono (by first | decide | omega)) (bv 0)) b_bl (nomark _))))), ?_⟩
    kas_types
    match way, hw with
    | 0, _ =>
      lcg_off
      refine ite_t rfl ?_
      lcg_off
      refine rd_meth hA rfl ?_
      lcg_off
      refine names_use zs hA hz (by omega) (fun ys p1 H1 pm1 so1 n1 s1 g1 => ?_)
      lcg_off
      refine rd_listD zs (s1 _ _ hp) hz (by omega) (fun p2 H2 n2 s2 g2 => ?_)
      have hzl : zs.length = d.m.length := by
        have := congrArg List.length hz
        rw [List.length_map, List.length_map] at this
        omega
      lcg_off
      refine rd_sortS zs (SqL.of g2) (by omega) (fun ys' p3 H3 pm3 so3 n3 s3 g3 => ?_)
      obtain rfl : ys = ys' := perm_sortedS (pm1.trans pm3.symm) so1 so3
      have g1' : H3 p1 = some (.lst (ys.map V.str)) := s3 _ _ (s2 _ _ g1)
      refine rd_neLS ys g1' g3 ?_
      lcg_off
      refine rd_append g1' (by rw [List.length_map, pm1.length_eq, sizeLine_eq]; omega) ?_
      have s13 : Same H H3 := (s1.trans s2).trans s3
      have sU : Same H (upd H3 p1 (.lst (ys.map V.str ++ [.non]))) := same_updL s13 n1
      have gU : upd H3 p1 (.lst (ys.map V.str ++ [.non])) p1 = some (.lst (ys.map V.str ++ [.non])) := upd_same
      generalize upd H3 p1 (.lst (ys.map V.str ++ [.non])) = HU at *
      clear g1 g2 g3 g1' n2 n3 s1 s2 s3 s13
      have hhU := sU _ _ hh
      lcg_off
      rename_i p4 H4 n4 s4 g4 pb H5 s5 g5
      have s15 : Same H H5 := (sU.trans s4).trans s5
      refine rd_append (s15 _ _ hh) (by rw [sizeLine_eq]; omega) ?_
      obtain ⟨kX, W'⟩ := held_new W s15 n1 (sU.free n4) g5 (.inl ⟨ys, s5 _ _ (s4 _ _ gU), s5 _ _ g4⟩)
      lcg_off
      refine rd_meth W'.at_ rfl ?_
      lcg_off
      refine hs_use W'.at_ ?_
      rw [W.ref]
      lcg_off
      exact q _ _ kX W' (by rw [List.length_append]; exact Nat.le_refl _)
    | 1, _ =>
      lcg_off
      refine ite_f (by decide) ?_
      lcg_off
      refine ite_t rfl ?_
      lcg_off
      refine rd_meth hA rfl ?_
      lcg_off
      refine files_use hA (fun p1 H1 n1 s1 g1 => ?_)
      lcg_off
      refine rd_neK g1 (s1 _ _ hp) W.ok.txt ?_
      lcg_off
      refine ⟨p1, _, rfl, DPut.k (k := .inr (Str.ofString "zz")) g1 (by rw [sizeLine_eq]; omega), ?_⟩
      have sU : Same H (upd H1 p1 (.dK (putK d.m (.inr (Str.ofString "zz")) (.str (Str.ofString "q"))))) := same_updL s1 n1
      have gU : upd H1 p1 (.dK (putK d.m (.inr (Str.ofString "zz")) (.str (Str.ofString "q")))) p1 = some (.dK (putK d.m (.inr (Str.ofString "zz")) (.str (Str.ofString "q")))) := upd_same
      have tU : txtK (putK d.m (.inr (Str.ofString "zz")) (.str (Str.ofString "q"))) := (W.ok.put _ (x := Str.ofString "q") (by rw [show (Str.ofString "q").length = 1 by decide +kernel]; omega)).txt
      generalize upd H1 p1 (.dK (putK d.m (.inr (Str.ofString "zz")) (.str (Str.ofString "q")))) = HU at *
      generalize putK d.m (.inr (Str.ofString "zz")) (.str (Str.ofString "q")) = mz at *
      clear g1 s1
      have hhU := sU _ _ hh
      lcg_off
      refine rd_dictC gU (fun p4 H4 n4 s4 g4 => ?_)
      lcg_off
      rename_i pb H5 s5 g5
      have s15 : Same H H5 := (sU.trans s4).trans s5
      refine rd_append (s15 _ _ hh) (by rw [sizeLine_eq]; omega) ?_
      obtain ⟨kX, W'⟩ := held_new W s15 n1 (sU.free n4) g5 (.inr ⟨mz, s5 _ _ (s4 _ _ gU), s5 _ _ g4, tU⟩)
      lcg_off
      refine rd_meth W'.at_ rfl ?_
      lcg_off
      refine hs_use W'.at_ ?_
      rw [W.ref]
      lcg_off
      exact q _ _ kX W' (by rw [List.length_append]; exact Nat.le_refl _)
    | 2, _ =>
      lcg_off
      refine ite_f (by decide) ?_
      lcg_off
      refine ite_f (by decide) ?_
      lcg_off
      refine ite_t rfl ?_
      lcg_off
      refine rd_meth hA rfl ?_
      lcg_off
      refine has_use hA ?_
      lcg_off
      refine rd_inK hp ?_
      lcg_off
      rw [beq_self_eq_true]
      exact q H hs (.of (Same.refl _)) W (Nat.le_succ _)
    | 3, _ =>
      lcg_off
      refine ite_f (by decide) ?_
      lcg_off
      refine ite_f (by decide) ?_
      lcg_off
      refine ite_f (by decide) ?_
      lcg_off
      refine ite_t rfl ?_
      lcg_off
      refine toldO_use hA W.ok (fun v1 G1 s1 r1 => ?_)
      lcg_off
      refine ⟨p, rfl, .inl ⟨_, .inl (s1 _ _ hp)⟩, ?_⟩
      lcg_off
      rename_i pl G2 nl s2 gl
      refine ⟨_, DGet.k (k := .inr nm) ((s1.trans s2) _ _ hp), ?_⟩
      have r2 : Rep G2 (toldO d.m nm) ((valV d.m (.inr nm)).getD (.ref pl)) := by
        unfold toldO
        cases e : valV d.m (.inr nm) with
        | none => exact (by keq_rows : Rep G2 (.lst [.str (Str.ofString "other")]) (.ref pl))
        | some v =>
          obtain ⟨y, rfl, _⟩ := W.ok.at e
          exact Rep.str'
      refine ⟨toldO d.m nm, toldO d.m nm, r1.same s2, r2, toldO_dep _ _, toldO_dep _ _, ?_⟩
      rw [pyEq_refl]
      exact q G2 hs (.of (s1.trans s2)) (W.same (s1.trans s2)) (Nat.le_succ _)
    | 4, _ =>
      lcg_off
      refine ite_f (by decide) ?_
      lcg_off
      refine ite_f (by decide) ?_
      lcg_off
      refine ite_f (by decide) ?_
      lcg_off
      refine ite_f (by decide) ?_
      lcg_off
      refine ite_t rfl ?_
      lcg_off
      refine rd_meth hA rfl ?_
      lcg_off
      refine st_use hA ?_
      lcg_off
      refine whole_use ?_
      lcg_off
      refine rd_meth hA rfl ?_
      lcg_off
      refine st_use hA ?_
      lcg_off
      rw [decide_eq_true rfl]
      exact q H hs (.of (Same.refl _)) W (Nat.le_succ _)
    | 5, _ =>
      lcg_off
      refine ite_f (by decide) ?_
      lcg_off
      refine ite_f (by decide) ?_
      lcg_off
      refine ite_f (by decide) ?_
      lcg_off
      refine ite_f (by decide) ?_
      lcg_off
      refine ite_f (by decide) ?_
      lcg_off
      refine rd_meth hA rfl ?_
      lcg_off
      refine hs_use hA ?_
      rw [W.ref]
      lcg_off
      exact q H hs (.of (Same.refl _)) W (Nat.le_succ _)
theorem way_use {c : Cs} {H : Hp} {Q : VK} {E : XK} {a t p ph : Addr} {d : DS} {s : Nat} {hs : List V} {nm : Str} {i j : Int} (way : Nat) (hi : i = ((d.done : Nat) : Int)) (hj : j = (way : Int)) (W : WayOk c H a t p ph d s hs) (hw : way ≤ 5) (hl : hs.length ≤ 1000)
    (q : ∀ H' hs', KeepX ph H H' → WayOk c H' a t p ph d s hs' → hs'.length ≤ hs.length + 1 → Q (.bl true) H') : spWay c [.ref a, .ref p, .int i, .int j, .str nm, .ref ph] H Q E := ⟨a, t, p, ph, d, s, hs, way, nm, by rw [hi, hj], W, hw, hl, q⟩
/-! ### all six ways -/
def spLook (c : Cs) : Sp := fun vs H Q _ => ∃ a t p ph d s hs, ∃ pick : Nat, vs = [.ref a, .ref p, .int ((d.done : Nat) : Int), .int ((pick : Nat) : Int), .ref ph] ∧ WayOk c H a t p ph d s hs ∧ hs.length ≤ 900 ∧
  ∀ H' hs', KeepX ph H H' → WayOk c H' a t p ph d s hs' → hs'.length ≤ hs.length + 6 → Q (.bl true) H'
theorem sc__law_looked : FnScope ["_law_disk", "_law_kept", "_law_count", "_law_pick", "_law_held_here", "_law_turn", "_law_way_here"] ["_law_disk", "_law_kept", "_law_count", "_law_pick", "_law_held_here"] (defScope s__law_looked) := ⟨rfl, rfl, rfl, by decide +kernel, rfl, by decide +kernel, by decide +kernel⟩
theorem ok__law_looked (T : Txt K mg) {c : Cs} (Z : Cl K mg c) {f : Addr} {fd : FuncData} (N : Fn K mg "_law_looked" s__law_looked ["_law_disk", "_law_kept", "_law_count", "_law_pick", "_law_held_here"] f fd) : FnOk P w K mg base CX0 (7) f fd ["_law_disk", "_law_kept", "_law_count", "_law_pick", "_law_held_here"] (spLook c) := by
  obtain ⟨_, _, N__law_way⟩ := T.f__law_way
  have G__law_way := ok__law_way (P := P) (w := w) (base := base) T Z N__law_way 
  obtain ⟨_, _, N__law_name⟩ := T.f__law_name
  have G__law_name := ok__law_name (P := P) (w := w) (base := base) T N__law_name 
  refine N.fu.okB sc__law_looked (fun vs H Q E h => ?_) (fun cdv A outer s H vs Q E hr h => ?_)
  · obtain ⟨a, t, p, ph, d, s, hs, pick, rfl, _⟩ := h
    rfl
  · obtain ⟨a, t, p, ph, d, s, hs, pick, rfl, W, hl, q⟩ := h
    refine ⟨_, (bss_cons (bs_for PassesOwn.never rfl (bi_r1 T.b_range (ba_c b_int ba_nil rfl)) (bg_name (i := 5) sc__law_looked.nd rfl (by first | exact Or.inl rfl | exact Or.inr rfl))
      (bss_cons (bs_set (i := 6) sc__law_looked.nd rfl (by first | exact Or.inl rfl | exact Or.inr rfl) (b_op op_mod (b_op o_add (bv 3) (b_op o_mul (bv 5) (b_ix ix_seq (b_lst (ba_c b_int (ba_c b_int ba_nil rfl) rfl)) (b_op op_mod (b_op op_fdiv (bv 3) b_int) b_int) (fun _ _ => rfl)))) b_int))
    (bss_one (bs_if (bt_not (bt_val (b_f N__law_way G__law_way (hr.mono (by first | decide | omega)) (ba_c (bv 0) (ba_c (bv 1) (ba_c (bv 2) (ba_c (bv 6) (ba_c (b_f N__law_name G__law_name (hr.mono (by first | decide | omega)) (ba_c (b_op op_fdiv (bv 3) b_int) ba_nil rfl)) (ba_c (bv 4) ba_nil rfl) rfl) rfl) rfl) rfl) rfl)) (fun _ => rfl)))
      (bss_one (bs_ret b_bl))
      bss_nil))))
    (bss_one (bs_ret b_bl))), ?_⟩
    kas_types
    lcg_off
    refine forR (fun i σ G => ∃ (hs' : List V) (o5 o6 : Option V), σ = [some (.ref a), some (.ref p), some (.int ((d.done : Nat) : Int)), some (.int ((pick : Nat) : Int)), some (.ref ph), o5, o6] ∧ KeepX ph H G ∧ WayOk c G a t p ph d s hs' ∧ hs'.length ≤ hs.length + i) ⟨hs, _, _, rfl, .of (Same.refl _), W, Nat.le_refl _⟩ (fun i σ G hi h => ?_) (fun σ G h => ?_)
    · obtain ⟨hs', o5, o6, rfl, kG, WG, hlG⟩ := h
      have hi6 : i < 6 := hi
      lcg_off
      rename_i pl G1 nl s1 gl
      obtain ⟨v, hv, hx⟩ := atI_in (xs := [.int 1, .int 5]) (i := ((pick : Nat) : Int) / 6 % 2) (by omega) (by simp only [List.length_cons, List.length_nil]; omega)
      obtain ⟨f, rfl⟩ : ∃ f : Nat, v = .int ((f : Nat) : Int) := by
        simp only [List.mem_cons, List.not_mem_nil, or_false] at hv
        rcases hv with h | h
        · exact ⟨1, h⟩
        · exact ⟨5, h⟩
      refine rd_ixL (SqL.of gl) hx ?_
      lcg_off
      refine name_use (pick / 12) (by omega) (fun nm G2 hz s2 => ?_)
      lcg_off
      generalize ((pick : Nat) : Int) + (0 + (i : Int)) * ((f : Nat) : Int) = X
      obtain ⟨wy, hwy, hw5⟩ : ∃ wy : Nat, X % 6 = (wy : Int) ∧ wy ≤ 5 := ⟨(X % 6).toNat, by omega, by omega⟩
      refine way_use wy rfl hwy (WG.same (s1.trans s2)) hw5 (by omega) (fun G3 hs3 k3 W3 l3 => ?_)
      lcg_off
      exact ⟨hs3, _, _, rfl, kG.trans ((KeepX.of (s1.trans s2)).trans k3), W3, by omega⟩
    · obtain ⟨hs', o5, o6, rfl, kG, WG, hlG⟩ := h
      lcg_off
      exact q G hs' kG WG hlG
theorem look_use {c : Cs} {H : Hp} {Q : VK} {E : XK} {a t p ph : Addr} {d : DS} {s : Nat} {hs : List V} {i j : Int} (pick : Nat) (hi : i = ((d.done : Nat) : Int)) (hj : j = (pick : Int)) (W : WayOk c H a t p ph d s hs) (hl : hs.length ≤ 900)
    (q : ∀ H' hs', KeepX ph H H' → WayOk c H' a t p ph d s hs' → hs'.length ≤ hs.length + 6 → Q (.bl true) H') : spLook c [.ref a, .ref p, .int i, .int j, .ref ph] H Q E := ⟨a, t, p, ph, d, s, hs, pick, by rw [hi, hj], W, hl, q⟩
/-! ### what was held is as it was -/
theorem rep_txtsN {H : Hp} : ∀ ys : List Str, Reps H (ys.map D.str ++ [.non]) (ys.map V.str ++ [.non])
  | [] => Reps.cons' Rep.non' Reps.nil'
  | y :: ys => Reps.cons' Rep.str' (rep_txtsN ys)
theorem deps_txtsN : ∀ ys : List Str, D.deps (ys.map D.str ++ [.non]) ≤ 1
  | [] => by simp [D.deps, D.dep]
  | y :: ys => by
    have := deps_txtsN ys
    simp only [List.map_cons, List.cons_append, D.deps, D.dep]
    omega
theorem rd_neLN {H : Hp} {Q : VK} {p p' : Addr} (ys : List Str) (h1 : H p = some (.lst (ys.map V.str ++ [.non]))) (h2 : H p' = some (.lst (ys.map V.str ++ [.non]))) (q : Q (.bl false) H) : rNeD (.ref p) (.ref p') H Q := by
  refine ⟨.lst (ys.map D.str ++ [.non]), .lst (ys.map D.str ++ [.non]), Rep.mkL h1 (rep_txtsN ys), Rep.mkL h2 (rep_txtsN ys), ?_, ?_, by rw [pyEq_refl]; exact q⟩
  all_goals (have := deps_txtsN ys; simp only [D.dep]; omega)
def spHeld : Sp := fun vs H Q _ => ∃ ph hs S, vs = [.ref ph] ∧ H ph = some (.lst hs) ∧ Held S H hs ∧ Q (.bl true) H
theorem sc__law_held : FnScope ["_law_held_here", "_law_pair"] ["_law_held_here"] (defScope s__law_held) := ⟨rfl, rfl, rfl, by decide +kernel, rfl, by decide +kernel, by decide +kernel⟩
theorem ok__law_held (T : Txt K mg) {f : Addr} {fd : FuncData} (N : Fn K mg "_law_held" s__law_held ["_law_held_here"] f fd) : FnOk P w K mg base CX0 (1) f fd ["_law_held_here"] (spHeld) := by
  refine N.fu.okB sc__law_held (fun vs H Q E h => ?_) (fun cdv A outer s H vs Q E hr h => ?_)
  · obtain ⟨ph, hs, S, rfl, _⟩ := h
    rfl
  · obtain ⟨ph, hs, S, rfl, hh, hH, q⟩ := h
    refine ⟨_, (bss_cons (bs_for PassesOwn.never rfl (bi_list (bv 0)) (bg_name (i := 1) sc__law_held.nd rfl (by first | exact Or.inl rfl | exact Or.inr rfl))
      (bss_one (bs_if (bt_cmp ((o_neD (room100 hr)).or (o_neK (room100 hr))) (b_ix ix_seq (bv 1) b_int (fun _ _ => rfl)) (b_ix ix_seq (bv 1) b_int (fun _ _ => rfl)) (nomark _))
      (bss_one (bs_ret b_bl))
      bss_nil)))
    (bss_one (bs_ret b_bl))), ?_⟩
    kas_types
    lcg_off
    refine forL (a := ph) (xs := hs) (fun i σ G => ∃ o, σ = [some (.ref ph), o] ∧ G = H) ⟨none, rfl, rfl⟩ (fun i σ G h => by obtain ⟨_, _, rfl⟩ := h; exact SqL.of hh) (fun i x σ G hi2 hx h => ?_) (fun σ G h => ?_)
    · obtain ⟨o, rfl, rfl⟩ := h
      obtain ⟨b, p, q, rfl, _, _, _, gb, hc⟩ := hH x (List.mem_of_getElem? hx)
      lcg_off
      rcases hc with ⟨ys, h1, h2⟩ | ⟨kvs, h1, h2, h3⟩
      · refine .inl (rd_neLN ys h1 h2 ?_)
        lcg_off
        exact ⟨_, rfl, rfl⟩
      · refine .inr (rd_neK h1 h2 h3 ?_)
        lcg_off
        exact ⟨_, rfl, rfl⟩
    · obtain ⟨o, rfl, rfl⟩ := h
      lcg_off
      exact q
theorem held_use {H : Hp} {Q : VK} {E : XK} {ph : Addr} {hs : List V} {S : Addr → Prop} (h1 : H ph = some (.lst hs)) (h2 : Held S H hs) (q : Q (.bl true) H) : spHeld [.ref ph] H Q E := ⟨ph, hs, S, rfl, h1, h2, q⟩
end
end T50



set_option Elab.async false
set_option linter.all false
set_option maxRecDepth 100000
set_option maxHeartbeats 4000000
namespace T50
open PySem L2

local macro_rules | `(tactic| lcg_src) => `(tactic| first | with_reducible assumption | ((with_reducible refine' Same.get ?s ?e); (case s => with_reducible assumption); (case e => lcg_src)))
local macro_rules | `(tactic| lcg_sub) => `(tactic| first | with_reducible assumption | with_reducible exact Same.refl _ | ((with_reducible refine' Same.tr ?s ?e); (case s => with_reducible assumption); (case e => lcg_sub)))
local macro_rules | `(tactic| keq_rows) => `(tactic| first | with_reducible assumption | with_reducible exact Rep.int' | with_reducible exact Rep.str' | with_reducible exact Rep.bl' | with_reducible exact Rep.non' | ((with_reducible refine' Rep.same ?s ?e); (case s => with_reducible assumption); (case e => keq_rows)) | ((with_reducible refine' Rep.mkT ?c ?_); (case c => lcg_src); keq_hits) | ((with_reducible refine' Rep.mkL ?c ?_); (case c => lcg_src); keq_hits) | ((with_reducible refine' Rep.mkD ?c); (case c => lcg_src)))
local macro_rules | `(tactic| keq_hits) => `(tactic| first | with_reducible assumption | with_reducible exact Reps.nil' | ((with_reducible refine' Reps.cons' ?c ?_); (case c => keq_rows); keq_hits) | ((with_reducible refine' Reps.same ?s ?e); (case s => with_reducible assumption); (case e => keq_hits)))
local macro_rules | `(tactic| tlg_ne) => `(tactic| first | with_reducible assumption | ((with_reducible refine' SqL.of ?c); (case c => lcg_src)) | ((with_reducible refine' SqT.of ?c); (case c => lcg_src)) | ((with_reducible refine' SqL.same ?s ?e); (case s => with_reducible assumption); (case e => tlg_ne)))
local macro_rules | `(tactic| kpc_turns) => `(tactic| first | decide | omega | (constructor <;> first | decide | omega))
local macro_rules | `(tactic| kas_types) => `(tactic| simp only [cxK, cxK', compK, triedK, heldXK, start_cc, start_cn, start_nn])
local macro_rules | `(tactic| kpt_turns) => `(tactic| first
  | refine rd_go ?_
  | ((with_reducible refine' rd_mod ?c ?_); (case c => kpc_turns))
  | ((with_reducible refine' rd_fdiv ?c ?_); (case c => kpc_turns))
  | ((with_reducible refine' rd_mulI ?c ?_); (case c => first | exact .inl (by kpc_turns) | exact .inr (by kpc_turns)))
  | ((with_reducible refine' rd_mkT ?c ?_); (case c => (simp only [List.length_cons, List.length_nil]; decide)); intro _ _ _ _)
  | ((with_reducible refine' rd_mkL ?c ?_); (case c => (simp only [List.length_cons, List.length_nil]; decide)); intro _ _ _ _ _)
  | ((with_reducible refine' rd_ixT ?c ?d ?_); (case c => tlg_ne); (case d => exact rfl))
  | ((with_reducible refine' rd_ixL ?c ?d ?_); (case c => tlg_ne); (case d => exact rfl))
  | ((with_reducible refine' rd_isT ?c ?_); (case c => lcg_src))
  | ((with_reducible refine' rd_isL ?c ?_); (case c => lcg_src))
  | ((with_reducible refine' rd_isD ?c ?_); (case c => lcg_src))
  | ((with_reducible refine' rd_lenT ?c ?_); (case c => tlg_ne))
  | ((with_reducible refine' rd_lenL ?c ?_); (case c => tlg_ne))
  | ((with_reducible refine' rd_lenS ?c ?_); (case c => first | assumption | (show _ ≤ 16777216; decide) | omega))
  | ((with_reducible refine' rd_slT ?c ?d ?_); (case c => tlg_ne); (case d => simp [HT.sIx]; done); intro _ _ _ h; (simp [cutV, HT.sIx] at h))
  | ((with_reducible refine' rd_bmL ?c ?_); (case c => lcg_src))
  | ((with_reducible refine' rd_shr ?c ?_); (case c => omega))
  | ((with_reducible refine' rd_dnew ?_); intro _ _ _ _ _)
  | ((with_reducible refine' rd_pow ?c ?_); (case c => kpc_turns))
  | ((with_reducible refine' rd_exL ?c ?_); (case c => tlg_ne))
  | ((with_reducible refine' rd_exT ?c ?_); (case c => tlg_ne))
  | ((with_reducible refine' rd_exr1 ?c ?_); (case c => kpc_turns))
  | ((with_reducible refine' rd_exr2 ?c ?_); (case c => refine ⟨?_, ?_, ?_, ?_⟩ <;> first | decide | omega))
  | ((with_reducible refine' rd_gTup ?c ?d ?_); (case c => tlg_ne); (case d => exact rfl))
  | ((with_reducible refine' rd_listL ?c ?_); (case c => tlg_ne); intro _ _ _ _ _)
  | ((with_reducible refine' rd_listT ?c ?_); (case c => tlg_ne); intro _ _ _ _ _)
  | ((with_reducible refine' rd_addL ?c ?d ?e ?_); (case c => lcg_src); (case d => lcg_src); (case e => first | (simp only [List.length_cons, List.length_nil]; decide) | (simp only [List.length_cons, List.length_nil, List.length_append, sizeLine_eq]; omega)); intro _ _ _ _ h; (try simp only [List.cons_append, List.nil_append] at h))
  | ((with_reducible refine' rd_addT ?c ?d ?f ?e ?_); (case c => lcg_src); (case d => lcg_src); (case f => (intro h; cases h)); (case e => first | (simp only [List.length_cons, List.length_nil]; decide) | (simp only [List.length_cons, List.length_nil, List.length_append, sizeLine_eq]; omega)); intro _ _ _ h; (try simp only [List.cons_append, List.nil_append] at h)))
local macro_rules | `(tactic| lcg_off) => `(tactic| repeat kpt_turns)
local macro_rules | `(tactic| kaf_pre) => `(tactic| ((with_reducible refine' rd_menu ?c ?a ?b ?_); (case c => tlg_ne); (case a => first | exact Int.emod_nonneg _ (by decide) | omega); (case b => first | exact Int.emod_lt_of_pos _ (by decide) | (simp only [List.length_cons, List.length_nil]; omega))))
local macro_rules | `(tactic| kaf_suf) => `(tactic| ((with_reducible refine' rd_pick ?c ?a ?b ?_); (case c => tlg_ne); (case a => first | exact Int.emod_nonneg _ (by decide) | omega); (case b => first | exact Int.emod_lt_of_pos _ (by decide) | (simp only [List.length_cons, List.length_nil]; omega))))
section
variable {P : Program} {w : World} {K : PySem.W.Frag} {mg : Str → Option Value} {base : Heap}
def spLaw (K : PySem.W.Frag) : Sp := fun vs H Q _ => ∃ (a : Addr) (ns : List Int), vs = [.ref a] ∧ SqL K H a (ns.map V.int) ∧ ns.length ≤ 63 ∧ ∀ H', Q (.bl true) H'
theorem gname_go {i : Nat} {v : V} {σ : St} {H : Hp} {F : St → Hp → Prop} (h : F (σ.set i (some v)) H) : gName i v σ H F := h
theorem seq_cut {T U : TS} {D : Ends} {σ : St} {H : Hp} (R : St → Hp → Prop) (h1 : ∀ nx' : St → Hp → Prop, (∀ σ' H', R σ' H' → nx' σ' H') → T { nx := nx', rt := D.rt, bk := D.bk, ct := D.ct } σ H) (h2 : ∀ σ' H', R σ' H' → U D σ' H') : tSeq T U D σ H := h1 _ h2
theorem seq_cut2 {T U W : TS} {D : Ends} {σ : St} {H : Hp} (R : St → Hp → Prop) (h1 : ∀ nx' : St → Hp → Prop, (∀ σ' H', R σ' H' → nx' σ' H') → tSeq T U { nx := nx', rt := D.rt, bk := D.bk, ct := D.ct } σ H) (h2 : ∀ σ' H', R σ' H' → W D σ' H') : tSeq T (tSeq U W) D σ H := h1 _ h2

theorem same_chg {H G G' : Hp} {a t : Addr} (s : Same H G) (ha : H a = none) (ht : H t = none) (k : Chg a t G G') : Same H G' := fun b o e => k b o (fun z => by rw [z, ha] at e; cases e) (fun z => by rw [z, ht] at e; cases e) (s b o e)
theorem at_upd {c : Cs} {G : Hp} {a t p : Addr} {d : DS} {o : HO} (h : At c G a t d) (h1 : p ≠ a) (h2 : p ≠ t) : At c (upd G p o) a t d := by
  obtain ⟨⟨dx, e1⟩, e2⟩ := h
  exact ⟨⟨dx, by rw [upd_ne (Ne.symm h1)]; exact e1⟩, by rw [upd_ne (Ne.symm h2)]; exact e2⟩
theorem sc_law : FnScope ["_law_script", "_law_kept", "_law_handed", "_law_beside", "_law_first", "_law_disk", "_law_count", "_law_held_here", "_law_k", "_law_pick", "_law_kind", "_law_name_here", "_law_text_here", "_law_found"] ["_law_script"] (defScope s_law) := ⟨rfl, rfl, rfl, by decide +kernel, rfl, by decide +kernel, by decide +kernel⟩
theorem ok_law (T : Txt K mg) {f : Addr} {fd : FuncData} (N : Fn K mg "law" s_law ["_law_script"] f fd) : FnOk P w K mg base CX0 (9) f fd ["_law_script"] (spLaw K) := by
  obtain ⟨c, Z⟩ := T.cl
  obtain ⟨_, _, F_Disk_init, ⟨_, hv0_Disk_init, hb0_Disk_init⟩, ⟨_, hv1_Disk_init, hb1_Disk_init⟩, ⟨_, hv2_Disk_init, hb2_Disk_init⟩, ⟨_, hv3_Disk_init, hb3_Disk_init⟩⟩ := Z.i_Disk_init
  have G_Disk_init := ok_Disk_init (P := P) (w := w) (base := base) T Z F_Disk_init
  obtain ⟨_, _, F_Disk_files, ⟨_, hv0_Disk_files, hb0_Disk_files⟩⟩ := Z.i_Disk_files
  have G_Disk_files := ok_Disk_files (P := P) (w := w) (base := base) T Z F_Disk_files
  obtain ⟨_, _, F_Disk_steps, ⟨_, hv0_Disk_steps, hb0_Disk_steps⟩⟩ := Z.i_Disk_steps
  have G_Disk_steps := ok_Disk_steps (P := P) (w := w) (base := base) T Z F_Disk_steps
  obtain ⟨_, _, N__law_files⟩ := T.f__law_files
  have G__law_files := ok__law_files (P := P) (w := w) (base := base) T N__law_files 
  obtain ⟨_, _, N__law_cell_at⟩ := T.f__law_cell_at
  have G__law_cell_at := ok__law_cell_at (P := P) (w := w) (base := base) T N__law_cell_at 
  obtain ⟨_, _, N__law_mixed⟩ := T.f__law_mixed
  have G__law_mixed := ok__law_mixed (P := P) (w := w) (base := base) T N__law_mixed 
  obtain ⟨_, _, N__law_name⟩ := T.f__law_name
  have G__law_name := ok__law_name (P := P) (w := w) (base := base) T N__law_name 
  obtain ⟨_, _, N__law_text⟩ := T.f__law_text
  have G__law_text := ok__law_text (P := P) (w := w) (base := base) T N__law_text 
  obtain ⟨_, _, N__law_step⟩ := T.f__law_step
  have G__law_step := ok__law_step (P := P) (w := w) (base := base) T Z N__law_step 
  obtain ⟨_, _, N__law_held⟩ := T.f__law_held
  have G__law_held := ok__law_held (P := P) (w := w) (base := base) T N__law_held 
  obtain ⟨_, _, N__law_looked⟩ := T.f__law_looked
  have G__law_looked := ok__law_looked (P := P) (w := w) (base := base) T Z N__law_looked 
  refine N.fu.okB sc_law (fun vs H Q E h => ?_) (fun cdv A outer s H vs Q E hr h => ?_)
  · obtain ⟨a, ns, rfl, _⟩ := h
    rfl
  · obtain ⟨a, ns, rfl, hS, hn, k⟩ := h
    refine ⟨_, (bss_cons (bs_set (i := 1) sc_law.nd rfl (by first | exact Or.inl rfl | exact Or.inr rfl) (b_f N__law_files G__law_files (hr.mono (by first | decide | omega)) (ba_c (b_f N__law_cell_at G__law_cell_at (hr.mono (by first | decide | omega)) (ba_c (bv 0) (ba_c b_int ba_nil rfl) rfl)) ba_nil rfl)))
    (bss_cons (bs_set (i := 2) sc_law.nd rfl (by first | exact Or.inl rfl | exact Or.inr rfl) (b_t c_dictC T.b_dict (by kernel_rfl) (ba_c (bv 1) ba_nil rfl)))
    (bss_cons (bs_set (i := 3) sc_law.nd rfl (by first | exact Or.inl rfl | exact Or.inr rfl) (b_mk Z.mk_Disk G_Disk_init pass0 hb2_Disk_init hv2_Disk_init (hr.mono (by first | decide | omega)) Z.m_Disk (ba_c (bv 2) ba_nil rfl)))
    (bss_cons (bs_set (i := 4) sc_law.nd rfl (by first | exact Or.inl rfl | exact Or.inr rfl) (b_t c_dictC T.b_dict (by kernel_rfl) (ba_c (bv 1) ba_nil rfl)))
    (bss_cons (bs_if (bt_cmp (o_eqE (room100 hr)) (bv 1) b_dnewK (nomark _))
      (bss_one (bs_set (i := 5) sc_law.nd rfl (by first | exact Or.inl rfl | exact Or.inr rfl) (b_ix ix_seq (b_lst (ba_c (b_mk0 Z.mk_Disk G_Disk_init pass0 hb3_Disk_init hv3_Disk_init (hr.mono (by first | decide | omega)) Z.m_Disk) (ba_c (b_mk Z.mk_Disk G_Disk_init pass0 hb2_Disk_init hv2_Disk_init (hr.mono (by first | decide | omega)) Z.m_Disk (ba_c b_non ba_nil rfl)) (ba_c (b_mk Z.mk_Disk G_Disk_init pass0 hb2_Disk_init hv2_Disk_init (hr.mono (by first | decide | omega)) Z.m_Disk (ba_c b_dnewK ba_nil rfl)) ba_nil rfl) rfl) rfl)) (b_op op_mod (b_op op_fdiv (b_f N__law_cell_at G__law_cell_at (hr.mono (by first | decide | omega)) (ba_c (bv 0) (ba_c b_int ba_nil rfl) rfl)) b_int) b_int) (fun _ _ => rfl))))
      (bss_one (bs_set (i := 5) sc_law.nd rfl (by first | exact Or.inl rfl | exact Or.inr rfl) (b_mk Z.mk_Disk G_Disk_init pass0 hb2_Disk_init hv2_Disk_init (hr.mono (by first | decide | omega)) Z.m_Disk (ba_c (bv 2) ba_nil rfl)))))
    (bss_cons (bs_if (bt_cmp (o_neK (room100 hr)) (bv 2) (bv 1) (nomark _))
      (bss_one (bs_ret b_bl))
      bss_nil)
    (bss_cons (bs_dput (hu_of hr) (bv 2) b_str b_str)
    (bss_cons (bs_set (i := 6) sc_law.nd rfl (by first | exact Or.inl rfl | exact Or.inr rfl) b_int)
    (bss_cons (bs_set (i := 7) sc_law.nd rfl (by first | exact Or.inl rfl | exact Or.inr rfl) (b_lst ba_nil))
    (bss_cons (bs_for PassesOwn.never rfl (bi_r2 T.b_range (ba_c b_int (ba_c (b_b (c_min rfl) T.b_min (by kernel_rfl) (ba_c (b_b c_len T.b_len (by kernel_rfl) (ba_c (bv 0) ba_nil rfl)) (ba_c b_int ba_nil rfl) rfl)) ba_nil rfl) rfl)) (bg_name (i := 8) sc_law.nd rfl (by first | exact Or.inl rfl | exact Or.inr rfl))
      (bss_cons (bs_set (i := 9) sc_law.nd rfl (by first | exact Or.inl rfl | exact Or.inr rfl) (b_f N__law_mixed G__law_mixed (hr.mono (by first | decide | omega)) (ba_c (b_ix ix_seq (bv 0) (bv 8) (fun _ _ => rfl)) (ba_c (bv 8) ba_nil rfl) rfl)))
    (bss_cons (bs_set (i := 10) sc_law.nd rfl (by first | exact Or.inl rfl | exact Or.inr rfl) (b_ix ix_seq (b_lst (ba_c b_int (ba_c b_int (ba_c b_int (ba_c b_int ba_nil rfl) rfl) rfl) rfl)) (b_op op_mod (bv 9) b_int) (fun _ _ => rfl)))
    (bss_cons (bs_set (i := 11) sc_law.nd rfl (by first | exact Or.inl rfl | exact Or.inr rfl) (b_f N__law_name G__law_name (hr.mono (by first | decide | omega)) (ba_c (b_op op_fdiv (bv 9) b_int) ba_nil rfl)))
    (bss_cons (bs_set (i := 12) sc_law.nd rfl (by first | exact Or.inl rfl | exact Or.inr rfl) (b_f N__law_text G__law_text (hr.mono (by first | decide | omega)) (ba_c (b_ix ix_seq (bv 0) (bv 8) (fun _ _ => rfl)) (ba_c (b_op o_add (bv 8) b_int) ba_nil rfl) rfl)))
    (bss_cons (bs_set (i := 13) sc_law.nd rfl (by first | exact Or.inl rfl | exact Or.inr rfl) (b_f N__law_step G__law_step (hr.mono (by first | decide | omega)) (ba_c (bv 5) (ba_c (bv 10) (ba_c (bv 11) (ba_c (bv 12) ba_nil rfl) rfl) rfl) rfl)))
    (bss_cons (bs_if (bt_w (bw_and (bt_cmp (o_eqD (room100 hr)) (bv 10) b_int (nomark _)) (bw_and1 (bt_cmp (op_notinK (room100 hr)) (bv 11) (bv 1) rfl))))
      (bss_one (bs_if (bt_w (bw_or (bt_not (bt_val (b_b c_isinst T.b_isinstance (by kernel_rfl) (ba_c (bv 13) (ba_c (b_ty (T := "str") T.b_str (by kernel_rfl)) ba_nil rfl) rfl)) (fun _ => rfl))) (bw_or1 (bt_cmp (o_neD (room100 hr)) (bv 13) b_str (nomark _)))))
      (bss_one (bs_ret b_bl))
      bss_nil))
      (bss_cons (bs_if (bt_cmp o_isnt (bv 13) b_non (nomark _))
      (bss_one (bs_ret b_bl))
      bss_nil)
    (bss_cons (bs_set (i := 6) sc_law.nd rfl (by first | exact Or.inl rfl | exact Or.inr rfl) (b_op o_add (bv 6) b_int))
    (bss_one (bs_if (bt_cmp (o_eqD (room100 hr)) (bv 10) b_int (nomark _))
      (bss_one (bs_dput (hu_of hr) (bv 1) (bv 11) (bv 12)))
      (bss_one (bs_if (bt_cmp (o_eqD (room100 hr)) (bv 10) b_int (nomark _))
      (bss_one (bs_dput (hu_of hr) (bv 1) (bv 11) (b_op o_add (bm_dget2 (hu_of hr) (bv 1) (bv 11) b_str) (bv 12))))
      (bss_one (bs_expr (bm_dpop1 (bv 1) (bv 11)))))))))))
    (bss_one (bs_if (bt_not (bt_val (b_f N__law_looked G__law_looked (hr.mono (by first | decide | omega)) (ba_c (bv 5) (ba_c (bv 1) (ba_c (bv 6) (ba_c (b_f N__law_mixed G__law_mixed (hr.mono (by first | decide | omega)) (ba_c (b_ix ix_seq (bv 0) (bv 8) (fun _ _ => rfl)) (ba_c (b_op o_add (bv 8) b_int) ba_nil rfl) rfl)) (ba_c (bv 7) ba_nil rfl) rfl) rfl) rfl) rfl)) (fun _ => rfl)))
      (bss_one (bs_ret b_bl))
      bss_nil)))))))))
    (bss_one (bs_ret (b_and (b_f N__law_held G__law_held (hr.mono (by first | decide | omega)) (ba_c (bv 7) ba_nil rfl)) (b_and (b_cmp (o_eqK (room100 hr)) (b_m0 Z.c_Disk Z.me_Disk_files G_Disk_files pass0 hb0_Disk_files hv0_Disk_files (hr.mono (by first | decide | omega)) (bv 3)) (bv 4) (nomark _)) (b_one (b_cmp (o_eqD (room100 hr)) (b_m0 Z.c_Disk Z.me_Disk_steps G_Disk_steps pass0 hb0_Disk_steps hv0_Disk_steps (hr.mono (by first | decide | omega)) (bv 3)) b_int (nomark _))))))))))))))))), ?_⟩
    kas_types
    lcg_off
    refine cell_use (k := 0) hS rfl ?_
    lcg_off
    refine fs_use (fun pk H1 m0 n1 s1 g1 hm0 hk0 => ?_)
    lcg_off
    refine rd_dictC g1 (fun pa H2 n2 s2 g2 => ?_)
    lcg_off
    refine new_use m0 none 0 rfl rfl (.inr ⟨pa, rfl, g2⟩) (fun ab tb H3 nab ntb hAB s3 => ?_)
    have g13 := s3 _ _ (s2 _ _ g1)
    lcg_off
    refine rd_dictC g13 (fun pf H4 n4 s4 g4 => ?_)
    refine gname_go ?_
    dsimp only [List.set]
    have sH3 : Same H H3 := (s1.trans s2).trans s3
    have sH4 : Same H H4 := sH3.trans s4
    have g14 := s4 _ _ g13
    have ga4 : H4 pa = some (.dK m0) := s4 _ _ (s3 _ _ g2)
    have hAB4 := hAB.same s4
    have hpk : pa ≠ pk := fun z => by rw [z, g1] at n2; cases n2
    have hpf : pa ≠ pf := fun z => by rw [← z, s3 _ _ g2] at n4; cases n4
    have hpab : pa ≠ ab := fun z => by rw [← z, g2] at nab; cases nab
    have hptb : pa ≠ tb := fun z => by rw [← z, g2] at ntb; cases ntb
    have htbk : tb ≠ pk := fun z => by rw [z, s2 _ _ g1] at ntb; cases ntb
    have hfk : pf ≠ pk := fun z => by rw [z, g13] at n4; cases n4
    have nH : H pa = none := s1.free n2
    clear g1 g2 g13 n2 nab ntb hAB n4 s1 s2 s3 s4
    refine seq_cut (fun σ' G => ∃ ad td, σ' = [some (.ref a), some (.ref pk), some (.ref pa), some (.ref ab), some (.ref pf), some (.ref ad), none, none, none, none, none, none, none, none] ∧ Same H4 G ∧ H4 ad = none ∧ H4 td = none ∧ At c G ad td ⟨m0, 0, none, 0, false⟩) (fun nx' hnx => ?_) (fun σ' G h => ?_)
    · lcg_off
      refine fun pe npe => ?_
      have sE : Same H4 (upd H4 pe (.dK [])) := same_new npe
      have gE : upd H4 pe (.dK []) pe = some (.dK []) := upd_same
      generalize upd H4 pe (.dK []) = G5 at *
      refine rd_eqE (sE _ _ g14) gE ?_
      cases hem : m0.isEmpty with
      | true =>
        obtain rfl : m0 = [] := List.isEmpty_iff.mp hem
        lcg_off
        refine new_use [] none 0 rfl rfl (.inl ⟨rfl, rfl⟩) (fun b1 u1 G6 nb1 nu1 hB1 s6 => ?_)
        lcg_off
        refine new_use [] none 0 rfl rfl (.inl ⟨rfl, rfl⟩) (fun b2 u2 G7 nb2 nu2 hB2 s7 => ?_)
        lcg_off
        refine fun pz npz => ?_
        have sZ : Same G7 (upd G7 pz (.dK [])) := same_new npz
        have gZ : upd G7 pz (.dK []) pz = some (.dK []) := upd_same
        generalize upd G7 pz (.dK []) = G8 at *
        lcg_off
        refine new_use [] none 0 rfl rfl (.inr ⟨pz, rfl, gZ⟩) (fun b3 u3 G9 nb3 nu3 hB3 s9 => ?_)
        lcg_off
        rename_i pl G10 nl s10 gl
        have t6 : Same H4 G6 := sE.trans s6
        have t7 : Same H4 G7 := t6.trans s7
        have t8 : Same H4 G8 := t7.trans sZ
        have t10 : Same H4 G10 := (t8.trans s9).trans s10
        refine cell_use (k := 0) (hS.same (sH4.trans t10)) rfl ?_
        lcg_off
        obtain ⟨v, hv, hx⟩ := atI_in (xs := [.ref b1, .ref b2, .ref b3]) (i := ns.getD 0 0 / 4 % 3) (by omega) (by simp only [List.length_cons, List.length_nil]; omega)
        refine rd_ixL (SqL.of gl) hx ?_
        simp only [List.mem_cons, List.not_mem_nil, or_false] at hv
        rcases hv with rfl | rfl | rfl
        · lcg_off
          exact hnx _ _ ⟨b1, u1, rfl, t10, sE.free nb1, sE.free nu1, (((hB1.same s7).same sZ).same s9).same s10⟩
        · lcg_off
          exact hnx _ _ ⟨b2, u2, rfl, t10, t6.free nb2, t6.free nu2, ((hB2.same sZ).same s9).same s10⟩
        · lcg_off
          exact hnx _ _ ⟨b3, u3, rfl, t10, t8.free nb3, t8.free nu3, hB3.same s10⟩
      | false =>
        lcg_off
        refine new_use m0 none 0 rfl rfl (.inr ⟨pa, rfl, sE _ _ ga4⟩) (fun b1 u1 G6 nb1 nu1 hB1 s6 => ?_)
        lcg_off
        exact hnx _ _ ⟨b1, u1, rfl, sE.trans s6, sE.free nb1, sE.free nu1, hB1⟩
    · obtain ⟨ad, td, rfl, sG, nad, ntd, hAD⟩ := h
      have hpad : pa ≠ ad := fun z => by rw [← z, ga4] at nad; cases nad
      have hptd : pa ≠ td := fun z => by rw [← z, ga4] at ntd; cases ntd
      have gaG := sG _ _ ga4
      have gkG := sG _ _ g14
      lcg_off
      refine rd_neK gaG gkG hm0.txt ?_
      lcg_off
      refine ⟨pa, _, rfl, DPut.k (k := .inr (Str.ofString "late")) gaG (by have := hm0.1; rw [sizeLine_eq]; omega), ?_⟩
      generalize putK m0 (.inr (Str.ofString "late")) (.str (Str.ofString "late")) = ml
      have sL : Same H (upd G pa (.dK ml)) := same_updL (sH4.trans sG) nH
      have kL : upd G pa (.dK ml) pk = some (.dK m0) := by rw [upd_ne (Ne.symm hpk)]; exact gkG
      have fL : upd G pa (.dK ml) pf = some (.dK m0) := by rw [upd_ne (Ne.symm hpf)]; exact sG _ _ g4
      have bL := at_upd (o := .dK ml) (hAB4.same sG) hpab hptb
      have dL := at_upd (o := .dK ml) hAD hpad hptd
      have h4ab : ∃ o, H4 ab = some o := hAB4.ins.elim fun _ e => ⟨_, e⟩
      generalize upd G pa (.dK ml) = GL at *
      lcg_off
      rename_i ph HB nph sB gB
      have nab : ¬ S4 ad td pk ph ab := by
        rintro (rfl | rfl | rfl | rfl)
        · obtain ⟨o, e⟩ := h4ab
          rw [nad] at e; cases e
        · obtain ⟨o, e⟩ := h4ab
          rw [ntd] at e; cases e
        · obtain ⟨⟨dx, e⟩, _⟩ := bL
          rw [kL] at e; cases e
        · obtain ⟨⟨dx, e⟩, _⟩ := bL
          rw [nph] at e; cases e
      have ntb : ¬ S4 ad td pk ph tb := by
        rintro (rfl | rfl | h | rfl)
        · rw [hAB4.txt] at nad; cases nad
        · rw [hAB4.txt] at ntd; cases ntd
        · exact htbk h
        · rw [bL.txt] at nph; cases nph
      have npf : ¬ S4 ad td pk ph pf := by
        rintro (rfl | rfl | h | rfl)
        · rw [g4] at nad; cases nad
        · rw [g4] at ntd; cases ntd
        · exact hfk h
        · rw [fL] at nph; cases nph
      have hkad : pk ≠ ad := fun z => by rw [← z, g14] at nad; cases nad
      have hktd : pk ≠ td := fun z => by rw [← z, g14] at ntd; cases ntd
      have nHad := sH4.free nad
      have nHtd := sH4.free ntd
      have nHph := sL.free nph
      have W0 : WayOk c HB ad td pk ph ⟨m0, 0, none, 0, false⟩ 3 [] := ⟨dL.same sB, sB _ _ kL, rfl, hm0, by decide, hk0, gB, fun v hv => (nomatch hv)⟩
      have bB := bL.same sB
      have fB := sB _ _ fL
      have sHB : Same H HB := sL.trans sB
      clear dL bL kL fL gB sL sB h4ab hAD gaG gkG hAB4 ga4 g14 g4
      lcg_off
      refine forR (fun i σ G => ∃ (d : DS) (hs : List V) (o8 o9 o10 o11 o12 o13 : Option V), σ = [some (.ref a), some (.ref pk), some (.ref pa), some (.ref ab), some (.ref pf), some (.ref ad), some (.int ((d.done : Nat) : Int)), some (.ref ph), o8, o9, o10, o11, o12, o13] ∧ Same H G ∧ (∀ b o, ¬ S4 ad td pk ph b → HB b = some o → G b = some o) ∧ WayOk c G ad td pk ph d (3 + i) hs ∧ d.stop = none ∧ hs.length ≤ 6 * i)
        ⟨_, [], _, _, _, _, _, _, rfl, sHB, fun b o _ e => e, W0, rfl, Nat.le_refl _⟩ (fun i σ G hi h => ?_) (fun σ G h => ?_)
      · obtain ⟨d, hs, o8, o9, o10, o11, o12, o13, rfl, sG, kG, W, hst, hhl⟩ := h
        rw [List.length_map] at hi
        have hi2 : 3 + i < ns.length := by omega
        have hi30 : i < 30 := by omega
        have hix : atI (ns.map V.int) (3 + (i : Int)) = some (.int (ns.getD (3 + i) 0)) := by
          rw [show (3 : Int) + (i : Int) = ((3 + i : Nat) : Int) by omega]
          refine atI_nat ?_
          rw [List.getElem?_map, List.getElem?_eq_getElem hi2, List.getD_eq_getElem?_getD, List.getElem?_eq_getElem hi2]
          rfl
        lcg_off
        refine rd_ixL (hS.same sG) hix ?_
        lcg_off
        refine mixed_use ?_
        obtain ⟨z0, z1⟩ := mixed_bound (ns.getD (3 + i) 0) (3 + (i : Int))
        generalize mixed (ns.getD (3 + i) 0) (3 + (i : Int)) = pk4 at *
        lcg_off
        rename_i pl G1 nl s1 gl
        obtain ⟨v, hv, hx⟩ := atI_in (xs := [.int 0, .int 1, .int 1, .int 2]) (i := pk4 % 4) (by omega) (by simp only [List.length_cons, List.length_nil]; omega)
        obtain ⟨kd, rfl, hkd⟩ : ∃ k0 : Nat, v = .int ((k0 : Nat) : Int) ∧ k0 ≤ 2 := by
          simp only [List.mem_cons, List.not_mem_nil, or_false] at hv
          rcases hv with h | h | h | h
          · exact ⟨0, h, by decide⟩
          · exact ⟨1, h, by decide⟩
          · exact ⟨1, h, by decide⟩
          · exact ⟨2, h, by decide⟩
        refine rd_ixL (SqL.of gl) hx ?_
        clear hv hx gl nl
        lcg_off
        refine name_use (pk4 / 4).toNat (by omega) (fun nm G2 hz s2 => ?_)
        lcg_off
        refine rd_ixL (hS.same ((sG.trans s1).trans s2)) hix ?_
        lcg_off
        refine textL_use (fun tx G3 hx3 s3 => ?_)
        have sG3 : Same G G3 := (s1.trans s2).trans s3
        have W3 := W.same sG3
        have k3 : ∀ b o, ¬ S4 ad td pk ph b → HB b = some o → G3 b = some o := fun b o n e => sG3 _ _ (kG b o n e)
        have sH3 := sG.trans sG3
        clear sG3 W kG sG s1 s2 s3
        refine gname_go ?_
        dsimp only [List.set]
        refine seq_cut2 (fun σ' G' => ∃ (d3 : DS) (o13 : Option V), σ' = [some (.ref a), some (.ref pk), some (.ref pa), some (.ref ab), some (.ref pf), some (.ref ad), some (.int ((d3.done : Nat) : Int)), some (.ref ph), some (.int (3 + (i : Int))), some (.int pk4), some (.int ((kd : Nat) : Int)), some (.str nm), some (.str tx), o13] ∧ Same H G' ∧ (∀ b o, ¬ S4 ad td pk ph b → HB b = some o → G' b = some o) ∧ WayOk c G' ad td pk ph d3 (3 + (i + 1)) hs ∧ d3.stop = none) (fun nx' hnx => ?_) (fun σ' G5 h => ?_)
        · lcg_off
          refine step0_use (s := 3 + i) rfl W3.at_ hst hkd hx3 W3.ok (by omega) (fun e2 hno G4 s4 => ?_) (fun hso G4 hA4 c4 => ?_)
          · subst e2
            have W4 := W3.same s4
            lcg_off
            refine ite_t rfl ?_
            lcg_off
            refine rd_notinK W4.kept ?_
            rw [hno]
            lcg_off
            refine ite_f (by rw [decide_eq_true rfl]; decide) ?_
            lcg_off
            exact hnx _ _ ⟨d, _, rfl, sH3.trans s4, fun b o n e => s4 _ _ (k3 b o n e), ⟨W4.at_, W4.kept, W4.ref, W4.ok.mono (by omega), by omega, W4.keys, W4.held, W4.all⟩, hst⟩
          · have gk4 := c4 _ _ hkad hktd W3.kept
            have s4 := same_chg sH3 nHad nHtd c4
            have gh4 := c4 _ _ (fun z => by have := W3.at_.ins; obtain ⟨dx, e⟩ := this; rw [← z, W3.held] at e; cases e) (fun z => by have := W3.at_.txt; rw [← z, W3.held] at this; cases this) W3.held
            have hml := W3.ok.1
            have hg := W3.ok.get nm
            have rest : nx' [some (.ref a), some (.ref pk), some (.ref pa), some (.ref ab), some (.ref pf), some (.ref ad), some (.int (((d.done + 1 : Nat) : Nat) : Int)), some (.ref ph), some (.int (3 + (i : Int))), some (.int pk4), some (.int ((kd : Nat) : Int)), some (.str nm), some (.str tx), some .non] (upd G4 pk (.dK (newM d.m kd nm tx))) := by
              have kS : ∀ b o, ¬ S4 ad td pk ph b → G3 b = some o → upd G4 pk (.dK (newM d.m kd nm tx)) b = some o := fun b o n e => by
                rw [upd_ne (fun z => n (.inr (.inr (.inl z))))]
                exact c4 _ _ (fun z => n (.inl z)) (fun z => n (.inr (.inl z))) e
              refine hnx _ _ ⟨{ d with m := newM d.m kd nm tx, done := d.done + 1 }, _, rfl, same_updL s4 n1, fun b o n e => kS _ _ n (k3 b o n e), ⟨at_upd hA4 hkad hktd, upd_same, W3.ref, W3.ok.new kd nm hx3, by omega, W3.keys.new kd nm tx, ?_, W3.all.keep kS⟩, hst⟩
              rw [upd_ne (fun z => by rw [z, gk4] at gh4; cases gh4)]
              exact gh4
            unfold newM at rest
            match kd, hkd with
            | 0, _ =>
              lcg_off
              refine ite_f (by decide) ?_
              lcg_off
              refine ite_t rfl ?_
              lcg_off
              refine ⟨pk, _, rfl, DPut.k (k := .inr nm) gk4 (by rw [sizeLine_eq]; omega), ?_⟩
              exact rest
            | 1, _ =>
              lcg_off
              refine ite_f (by decide) ?_
              lcg_off
              refine ite_f (by decide) ?_
              lcg_off
              refine ite_t rfl ?_
              lcg_off
              refine ⟨pk, rfl, .inl ⟨_, .inl gk4⟩, ?_⟩
              lcg_off
              refine ⟨_, DGet.k (k := .inr nm) gk4, ?_⟩
              rw [hg.1]
              lcg_off
              refine rd_addS (by rw [sizeLine_eq]; omega) ?_
              lcg_off
              refine ⟨pk, _, rfl, DPut.k (k := .inr nm) gk4 (by rw [sizeLine_eq]; omega), ?_⟩
              exact rest
            | 2, _ =>
              obtain ⟨v, hv⟩ := Option.isSome_iff_exists.mp (hso rfl)
              lcg_off
              refine ite_t rfl ?_
              lcg_off
              refine rd_notinK gk4 ?_
              rw [hso rfl]
              lcg_off
              refine ite_f (by decide) ?_
              lcg_off
              refine ite_f (by decide) ?_
              lcg_off
              refine ⟨pk, rfl, .inl ⟨_, .inl gk4⟩, ?_⟩
              lcg_off
              refine ⟨_, .inr nm, v, gk4, rfl, hv, ?_⟩
              lcg_off
              exact rest
        · obtain ⟨d3, o13', rfl, sH5, k5, W5, hst5⟩ := h
          lcg_off
          refine rd_ixL (hS.same sH5) hix ?_
          lcg_off
          refine mixed_use ?_
          obtain ⟨y0, y1⟩ := mixed_bound (ns.getD (3 + i) 0) (3 + (i : Int) + 200)
          generalize mixed (ns.getD (3 + i) 0) (3 + (i : Int) + 200) = pk5 at *
          lcg_off
          refine look_use pk5.toNat rfl (by omega) W5 (by omega) (fun G6 hs6 x6 W6 l6 => ?_)
          lcg_off
          exact ⟨d3, hs6, _, _, _, _, _, _, rfl, (fun b o e => x6 b o (fun z => by rw [z, nHph] at e; cases e) (sH5 b o e)), (fun b o n e => x6 b o (fun z => n (.inr (.inr (.inr z)))) (k5 b o n e)), W6, hst5, by omega⟩
      · obtain ⟨d, hs, o8, o9, o10, o11, o12, o13, rfl, sG, kG, W, hst, hhl⟩ := h
        lcg_off
        refine held_use W.held W.all ?_
        have bG : At c G ab tb ⟨m0, 0, none, 0, false⟩ := ⟨bB.ins.imp fun _ e => kG _ _ nab e, kG _ _ ntb bB.txt⟩
        lcg_off
        refine rd_meth bG rfl ?_
        lcg_off
        refine files_use bG (fun p6 G6 n6 s6 g6 => ?_)
        lcg_off
        refine rd_eqK g6 (s6 _ _ (kG _ _ npf fB)) hm0.txt ?_
        lcg_off
        refine rd_meth (bG.same s6) rfl ?_
        lcg_off
        refine st_use (bG.same s6) ?_
        lcg_off
        exact k _
end
theorem all_mk {l : PySem.W.OpenLaw} {w : World} {K : PySem.W.Frag} {h : Heap} {mg : Str → Option Value} {fa f1 f2 f3 f4 f5 f6 f7 f8 f9 f10 f11 f12 : Addr} (X : K.In h) (G : h.Ns mainGlobals mg) (hfa : mg "law" = some (.ref fa))
    {od1 an1 : Option Addr} {sl1 : Array (Option Value)} {oc1 kV1 dc1 pm1 cd1 ct1 : Value}
    {od2 an2 : Option Addr} {sl2 : Array (Option Value)} {oc2 kV2 dc2 pm2 cd2 ct2 : Value}
    {od3 an3 : Option Addr} {sl3 : Array (Option Value)} {oc3 kV3 dc3 pm3 cd3 ct3 : Value}
    {od4 an4 : Option Addr} {sl4 : Array (Option Value)} {oc4 kV4 dc4 pm4 cd4 ct4 : Value}
    {od5 an5 : Option Addr} {sl5 : Array (Option Value)} {oc5 kV5 dc5 pm5 cd5 ct5 : Value}
    {od6 an6 : Option Addr} {sl6 : Array (Option Value)} {oc6 kV6 dc6 pm6 cd6 ct6 : Value}
    {od7 an7 : Option Addr} {sl7 : Array (Option Value)} {oc7 kV7 dc7 pm7 cd7 ct7 : Value}
    {od8 an8 : Option Addr} {sl8 : Array (Option Value)} {oc8 kV8 dc8 pm8 cd8 ct8 : Value}
    {od9 an9 : Option Addr} {sl9 : Array (Option Value)} {oc9 kV9 dc9 pm9 cd9 ct9 : Value}
    {od10 an10 : Option Addr} {sl10 : Array (Option Value)} {oc10 kV10 dc10 pm10 cd10 ct10 : Value}
    {od11 an11 : Option Addr} {sl11 : Array (Option Value)} {oc11 kV11 dc11 pm11 cd11 ct11 : Value}
    {od12 an12 : Option Addr} {sl12 : Array (Option Value)} {oc12 kV12 dc12 pm12 cd12 ct12 : Value}
    (a1 : PySem.W.nsIn K mainGlobals "_law_whole" = some (some (.ref f1))) (l1 : K.lookup f1 = some ⟨oc1, od1, .func (PySem.W.fnOf "_law_whole" "_law_whole" (defArgs s__law_whole) (defBody s__law_whole) (defScope s__law_whole) .none kV1 dc1 pm1 an1 cd1 ct1), sl1⟩) (c1 : PySem.W.codeIn K cd1 "_law_whole" = true) (k1 : PySem.W.keepIn K (.ref f1) = true)
    (a2 : PySem.W.nsIn K mainGlobals "_law_cell_at" = some (some (.ref f2))) (l2 : K.lookup f2 = some ⟨oc2, od2, .func (PySem.W.fnOf "_law_cell_at" "_law_cell_at" (defArgs s__law_cell_at) (defBody s__law_cell_at) (defScope s__law_cell_at) .none kV2 dc2 pm2 an2 cd2 ct2), sl2⟩) (c2 : PySem.W.codeIn K cd2 "_law_cell_at" = true) (k2 : PySem.W.keepIn K (.ref f2) = true)
    (a3 : PySem.W.nsIn K mainGlobals "_law_mixed" = some (some (.ref f3))) (l3 : K.lookup f3 = some ⟨oc3, od3, .func (PySem.W.fnOf "_law_mixed" "_law_mixed" (defArgs s__law_mixed) (defBody s__law_mixed) (defScope s__law_mixed) .none kV3 dc3 pm3 an3 cd3 ct3), sl3⟩) (c3 : PySem.W.codeIn K cd3 "_law_mixed" = true) (k3 : PySem.W.keepIn K (.ref f3) = true)
    (a4 : PySem.W.nsIn K mainGlobals "_law_held" = some (some (.ref f4))) (l4 : K.lookup f4 = some ⟨oc4, od4, .func (PySem.W.fnOf "_law_held" "_law_held" (defArgs s__law_held) (defBody s__law_held) (defScope s__law_held) .none kV4 dc4 pm4 an4 cd4 ct4), sl4⟩) (c4 : PySem.W.codeIn K cd4 "_law_held" = true) (k4 : PySem.W.keepIn K (.ref f4) = true)
    (a5 : PySem.W.nsIn K mainGlobals "_law_name" = some (some (.ref f5))) (l5 : K.lookup f5 = some ⟨oc5, od5, .func (PySem.W.fnOf "_law_name" "_law_name" (defArgs s__law_name) (defBody s__law_name) (defScope s__law_name) .none kV5 dc5 pm5 an5 cd5 ct5), sl5⟩) (c5 : PySem.W.codeIn K cd5 "_law_name" = true) (k5 : PySem.W.keepIn K (.ref f5) = true)
    (a6 : PySem.W.nsIn K mainGlobals "_law_text" = some (some (.ref f6))) (l6 : K.lookup f6 = some ⟨oc6, od6, .func (PySem.W.fnOf "_law_text" "_law_text" (defArgs s__law_text) (defBody s__law_text) (defScope s__law_text) .none kV6 dc6 pm6 an6 cd6 ct6), sl6⟩) (c6 : PySem.W.codeIn K cd6 "_law_text" = true) (k6 : PySem.W.keepIn K (.ref f6) = true)
    (a7 : PySem.W.nsIn K mainGlobals "_law_files" = some (some (.ref f7))) (l7 : K.lookup f7 = some ⟨oc7, od7, .func (PySem.W.fnOf "_law_files" "_law_files" (defArgs s__law_files) (defBody s__law_files) (defScope s__law_files) .none kV7 dc7 pm7 an7 cd7 ct7), sl7⟩) (c7 : PySem.W.codeIn K cd7 "_law_files" = true) (k7 : PySem.W.keepIn K (.ref f7) = true)
    (a8 : PySem.W.nsIn K mainGlobals "_law_step" = some (some (.ref f8))) (l8 : K.lookup f8 = some ⟨oc8, od8, .func (PySem.W.fnOf "_law_step" "_law_step" (defArgs s__law_step) (defBody s__law_step) (defScope s__law_step) .none kV8 dc8 pm8 an8 cd8 ct8), sl8⟩) (c8 : PySem.W.codeIn K cd8 "_law_step" = true) (k8 : PySem.W.keepIn K (.ref f8) = true)
    (a9 : PySem.W.nsIn K mainGlobals "_law_told" = some (some (.ref f9))) (l9 : K.lookup f9 = some ⟨oc9, od9, .func (PySem.W.fnOf "_law_told" "_law_told" (defArgs s__law_told) (defBody s__law_told) (defScope s__law_told) .none kV9 dc9 pm9 an9 cd9 ct9), sl9⟩) (c9 : PySem.W.codeIn K cd9 "_law_told" = true) (k9 : PySem.W.keepIn K (.ref f9) = true)
    (a10 : PySem.W.nsIn K mainGlobals "_law_way" = some (some (.ref f10))) (l10 : K.lookup f10 = some ⟨oc10, od10, .func (PySem.W.fnOf "_law_way" "_law_way" (defArgs s__law_way) (defBody s__law_way) (defScope s__law_way) .none kV10 dc10 pm10 an10 cd10 ct10), sl10⟩) (c10 : PySem.W.codeIn K cd10 "_law_way" = true) (k10 : PySem.W.keepIn K (.ref f10) = true)
    (a11 : PySem.W.nsIn K mainGlobals "_law_looked" = some (some (.ref f11))) (l11 : K.lookup f11 = some ⟨oc11, od11, .func (PySem.W.fnOf "_law_looked" "_law_looked" (defArgs s__law_looked) (defBody s__law_looked) (defScope s__law_looked) .none kV11 dc11 pm11 an11 cd11 ct11), sl11⟩) (c11 : PySem.W.codeIn K cd11 "_law_looked" = true) (k11 : PySem.W.keepIn K (.ref f11) = true)
    (a12 : PySem.W.nsIn K mainGlobals "law" = some (some (.ref f12))) (l12 : K.lookup f12 = some ⟨oc12, od12, .func (PySem.W.fnOf "law" "law" (defArgs s_law) (defBody s_law) (defScope s_law) .none kV12 dc12 pm12 an12 cd12 ct12), sl12⟩) (c12 : PySem.W.codeIn K cd12 "law" = true) (k12 : PySem.W.keepIn K (.ref f12) = true)
    (z0 : PySem.W.nsIn K mainGlobals "bool" = some none)
    (z1 : PySem.W.nsIn K mainGlobals "dict" = some none)
    (z2 : PySem.W.nsIn K mainGlobals "e" = some none)
    (z3 : PySem.W.nsIn K mainGlobals "int" = some none)
    (z4 : PySem.W.nsIn K mainGlobals "isinstance" = some none)
    (z5 : PySem.W.nsIn K mainGlobals "len" = some none)
    (z6 : PySem.W.nsIn K mainGlobals "list" = some none)
    (z7 : PySem.W.nsIn K mainGlobals "min" = some none)
    (z8 : PySem.W.nsIn K mainGlobals "range" = some none)
    (z9 : PySem.W.nsIn K mainGlobals "sorted" = some none)
    (z10 : PySem.W.nsIn K mainGlobals "str" = some none)
    {CTierError CNoFile CStopped CDisk : Addr}
    (m_TierError : PySem.W.nsIn K mainGlobals "TierError" = some (some (.ref CTierError)))
    (m_NoFile : PySem.W.nsIn K mainGlobals "NoFile" = some (some (.ref CNoFile)))
    (m_Stopped : PySem.W.nsIn K mainGlobals "Stopped" = some (some (.ref CStopped)))
    (m_Disk : PySem.W.nsIn K mainGlobals "Disk" = some (some (.ref CDisk)))
    {CNoFile_init : Addr} {odINoFile anINoFile : Option Addr} {slINoFile : Array (Option Value)} {ocINoFile kVINoFile dcINoFile pmINoFile cdINoFile ctINoFile : Value}
    (ai_NoFile : PySem.W.findIn K (.ref CNoFile) "__init__" = some (some (.ref CNoFile_init))) (li_NoFile : K.lookup CNoFile_init = some ⟨ocINoFile, odINoFile, .func (PySem.W.fnOf "__init__" "NoFile.__init__" (defArgs s_NoFile_init) (defBody s_NoFile_init) (defScope s_NoFile_init) .none kVINoFile dcINoFile pmINoFile anINoFile cdINoFile ctINoFile), slINoFile⟩) (ci_NoFile : PySem.W.codeIn K cdINoFile "NoFile.__init__" = true) (ki_NoFile : PySem.W.keepIn K (.ref CNoFile_init) = true)
    {CStopped_init : Addr} {odIStopped anIStopped : Option Addr} {slIStopped : Array (Option Value)} {ocIStopped kVIStopped dcIStopped pmIStopped cdIStopped ctIStopped : Value}
    (ai_Stopped : PySem.W.findIn K (.ref CStopped) "__init__" = some (some (.ref CStopped_init))) (li_Stopped : K.lookup CStopped_init = some ⟨ocIStopped, odIStopped, .func (PySem.W.fnOf "__init__" "Stopped.__init__" (defArgs s_Stopped_init) (defBody s_Stopped_init) (defScope s_Stopped_init) .none kVIStopped dcIStopped pmIStopped anIStopped cdIStopped ctIStopped), slIStopped⟩) (ci_Stopped : PySem.W.codeIn K cdIStopped "Stopped.__init__" = true) (ki_Stopped : PySem.W.keepIn K (.ref CStopped_init) = true)
    {CDisk_init dTDisk_init : Addr} {odMDisk_init anMDisk_init : Option Addr} {slMDisk_init : Array (Option Value)} {ocMDisk_init kVMDisk_init dcMDisk_init pmMDisk_init cdMDisk_init ctMDisk_init : Value}
    (ai_Disk_init : PySem.W.findIn K (.ref CDisk) "__init__" = some (some (.ref CDisk_init))) (li_Disk_init : K.lookup CDisk_init = some ⟨ocMDisk_init, odMDisk_init, .func (PySem.W.fnOf "__init__" "Disk.__init__" (defArgs s_Disk_init) (defBody s_Disk_init) (defScope s_Disk_init) (.ref dTDisk_init) kVMDisk_init dcMDisk_init pmMDisk_init anMDisk_init cdMDisk_init ctMDisk_init), slMDisk_init⟩) (ci_Disk_init : PySem.W.codeIn K cdMDisk_init "Disk.__init__" = true) (ki_Disk_init : PySem.W.keepIn K (.ref CDisk_init) = true)
    {tkMDisk_init2 : Tok}
    {ocDDisk_init : Value} {odDDisk_init : Option Addr} {nDDisk_init : Nat} {slDDisk_init : Array (Option Value)} (ti_Disk_init : K.lookup dTDisk_init = some ⟨ocDDisk_init, odDDisk_init, .seq #[Value.none, Value.none, Value.int 0 tkMDisk_init2] nDDisk_init, slDDisk_init⟩)
    {CDisk_names : Addr} {odMDisk_names anMDisk_names : Option Addr} {slMDisk_names : Array (Option Value)} {ocMDisk_names kVMDisk_names dcMDisk_names pmMDisk_names cdMDisk_names ctMDisk_names : Value}
    (ai_Disk_names : PySem.W.findIn K (.ref CDisk) "names" = some (some (.ref CDisk_names))) (li_Disk_names : K.lookup CDisk_names = some ⟨ocMDisk_names, odMDisk_names, .func (PySem.W.fnOf "names" "Disk.names" (defArgs s_Disk_names) (defBody s_Disk_names) (defScope s_Disk_names) .none kVMDisk_names dcMDisk_names pmMDisk_names anMDisk_names cdMDisk_names ctMDisk_names), slMDisk_names⟩) (ci_Disk_names : PySem.W.codeIn K cdMDisk_names "Disk.names" = true) (ki_Disk_names : PySem.W.keepIn K (.ref CDisk_names) = true)
    {CDisk_has : Addr} {odMDisk_has anMDisk_has : Option Addr} {slMDisk_has : Array (Option Value)} {ocMDisk_has kVMDisk_has dcMDisk_has pmMDisk_has cdMDisk_has ctMDisk_has : Value}
    (ai_Disk_has : PySem.W.findIn K (.ref CDisk) "has" = some (some (.ref CDisk_has))) (li_Disk_has : K.lookup CDisk_has = some ⟨ocMDisk_has, odMDisk_has, .func (PySem.W.fnOf "has" "Disk.has" (defArgs s_Disk_has) (defBody s_Disk_has) (defScope s_Disk_has) .none kVMDisk_has dcMDisk_has pmMDisk_has anMDisk_has cdMDisk_has ctMDisk_has), slMDisk_has⟩) (ci_Disk_has : PySem.W.codeIn K cdMDisk_has "Disk.has" = true) (ki_Disk_has : PySem.W.keepIn K (.ref CDisk_has) = true)
    {CDisk_text : Addr} {odMDisk_text anMDisk_text : Option Addr} {slMDisk_text : Array (Option Value)} {ocMDisk_text kVMDisk_text dcMDisk_text pmMDisk_text cdMDisk_text ctMDisk_text : Value}
    (ai_Disk_text : PySem.W.findIn K (.ref CDisk) "text" = some (some (.ref CDisk_text))) (li_Disk_text : K.lookup CDisk_text = some ⟨ocMDisk_text, odMDisk_text, .func (PySem.W.fnOf "text" "Disk.text" (defArgs s_Disk_text) (defBody s_Disk_text) (defScope s_Disk_text) .none kVMDisk_text dcMDisk_text pmMDisk_text anMDisk_text cdMDisk_text ctMDisk_text), slMDisk_text⟩) (ci_Disk_text : PySem.W.codeIn K cdMDisk_text "Disk.text" = true) (ki_Disk_text : PySem.W.keepIn K (.ref CDisk_text) = true)
    {CDisk_files : Addr} {odMDisk_files anMDisk_files : Option Addr} {slMDisk_files : Array (Option Value)} {ocMDisk_files kVMDisk_files dcMDisk_files pmMDisk_files cdMDisk_files ctMDisk_files : Value}
    (ai_Disk_files : PySem.W.findIn K (.ref CDisk) "files" = some (some (.ref CDisk_files))) (li_Disk_files : K.lookup CDisk_files = some ⟨ocMDisk_files, odMDisk_files, .func (PySem.W.fnOf "files" "Disk.files" (defArgs s_Disk_files) (defBody s_Disk_files) (defScope s_Disk_files) .none kVMDisk_files dcMDisk_files pmMDisk_files anMDisk_files cdMDisk_files ctMDisk_files), slMDisk_files⟩) (ci_Disk_files : PySem.W.codeIn K cdMDisk_files "Disk.files" = true) (ki_Disk_files : PySem.W.keepIn K (.ref CDisk_files) = true)
    {CDisk_steps : Addr} {odMDisk_steps anMDisk_steps : Option Addr} {slMDisk_steps : Array (Option Value)} {ocMDisk_steps kVMDisk_steps dcMDisk_steps pmMDisk_steps cdMDisk_steps ctMDisk_steps : Value}
    (ai_Disk_steps : PySem.W.findIn K (.ref CDisk) "steps" = some (some (.ref CDisk_steps))) (li_Disk_steps : K.lookup CDisk_steps = some ⟨ocMDisk_steps, odMDisk_steps, .func (PySem.W.fnOf "steps" "Disk.steps" (defArgs s_Disk_steps) (defBody s_Disk_steps) (defScope s_Disk_steps) .none kVMDisk_steps dcMDisk_steps pmMDisk_steps anMDisk_steps cdMDisk_steps ctMDisk_steps), slMDisk_steps⟩) (ci_Disk_steps : PySem.W.codeIn K cdMDisk_steps "Disk.steps" = true) (ki_Disk_steps : PySem.W.keepIn K (.ref CDisk_steps) = true)
    {CDisk_has_stopped : Addr} {odMDisk_has_stopped anMDisk_has_stopped : Option Addr} {slMDisk_has_stopped : Array (Option Value)} {ocMDisk_has_stopped kVMDisk_has_stopped dcMDisk_has_stopped pmMDisk_has_stopped cdMDisk_has_stopped ctMDisk_has_stopped : Value}
    (ai_Disk_has_stopped : PySem.W.findIn K (.ref CDisk) "has_stopped" = some (some (.ref CDisk_has_stopped))) (li_Disk_has_stopped : K.lookup CDisk_has_stopped = some ⟨ocMDisk_has_stopped, odMDisk_has_stopped, .func (PySem.W.fnOf "has_stopped" "Disk.has_stopped" (defArgs s_Disk_has_stopped) (defBody s_Disk_has_stopped) (defScope s_Disk_has_stopped) .none kVMDisk_has_stopped dcMDisk_has_stopped pmMDisk_has_stopped anMDisk_has_stopped cdMDisk_has_stopped ctMDisk_has_stopped), slMDisk_has_stopped⟩) (ci_Disk_has_stopped : PySem.W.codeIn K cdMDisk_has_stopped "Disk.has_stopped" = true) (ki_Disk_has_stopped : PySem.W.keepIn K (.ref CDisk_has_stopped) = true)
    {CDisk_write : Addr} {odMDisk_write anMDisk_write : Option Addr} {slMDisk_write : Array (Option Value)} {ocMDisk_write kVMDisk_write dcMDisk_write pmMDisk_write cdMDisk_write ctMDisk_write : Value}
    (ai_Disk_write : PySem.W.findIn K (.ref CDisk) "write" = some (some (.ref CDisk_write))) (li_Disk_write : K.lookup CDisk_write = some ⟨ocMDisk_write, odMDisk_write, .func (PySem.W.fnOf "write" "Disk.write" (defArgs s_Disk_write) (defBody s_Disk_write) (defScope s_Disk_write) .none kVMDisk_write dcMDisk_write pmMDisk_write anMDisk_write cdMDisk_write ctMDisk_write), slMDisk_write⟩) (ci_Disk_write : PySem.W.codeIn K cdMDisk_write "Disk.write" = true) (ki_Disk_write : PySem.W.keepIn K (.ref CDisk_write) = true)
    {CDisk_lengthen : Addr} {odMDisk_lengthen anMDisk_lengthen : Option Addr} {slMDisk_lengthen : Array (Option Value)} {ocMDisk_lengthen kVMDisk_lengthen dcMDisk_lengthen pmMDisk_lengthen cdMDisk_lengthen ctMDisk_lengthen : Value}
    (ai_Disk_lengthen : PySem.W.findIn K (.ref CDisk) "lengthen" = some (some (.ref CDisk_lengthen))) (li_Disk_lengthen : K.lookup CDisk_lengthen = some ⟨ocMDisk_lengthen, odMDisk_lengthen, .func (PySem.W.fnOf "lengthen" "Disk.lengthen" (defArgs s_Disk_lengthen) (defBody s_Disk_lengthen) (defScope s_Disk_lengthen) .none kVMDisk_lengthen dcMDisk_lengthen pmMDisk_lengthen anMDisk_lengthen cdMDisk_lengthen ctMDisk_lengthen), slMDisk_lengthen⟩) (ci_Disk_lengthen : PySem.W.codeIn K cdMDisk_lengthen "Disk.lengthen" = true) (ki_Disk_lengthen : PySem.W.keepIn K (.ref CDisk_lengthen) = true)
    {CDisk_take_off : Addr} {odMDisk_take_off anMDisk_take_off : Option Addr} {slMDisk_take_off : Array (Option Value)} {ocMDisk_take_off kVMDisk_take_off dcMDisk_take_off pmMDisk_take_off cdMDisk_take_off ctMDisk_take_off : Value}
    (ai_Disk_take_off : PySem.W.findIn K (.ref CDisk) "take_off" = some (some (.ref CDisk_take_off))) (li_Disk_take_off : K.lookup CDisk_take_off = some ⟨ocMDisk_take_off, odMDisk_take_off, .func (PySem.W.fnOf "take_off" "Disk.take_off" (defArgs s_Disk_take_off) (defBody s_Disk_take_off) (defScope s_Disk_take_off) .none kVMDisk_take_off dcMDisk_take_off pmMDisk_take_off anMDisk_take_off cdMDisk_take_off ctMDisk_take_off), slMDisk_take_off⟩) (ci_Disk_take_off : PySem.W.codeIn K cdMDisk_take_off "Disk.take_off" = true) (ki_Disk_take_off : PySem.W.keepIn K (.ref CDisk_take_off) = true)
    {CDisk_add_behind : Addr} {odMDisk_add_behind anMDisk_add_behind : Option Addr} {slMDisk_add_behind : Array (Option Value)} {ocMDisk_add_behind kVMDisk_add_behind dcMDisk_add_behind pmMDisk_add_behind cdMDisk_add_behind ctMDisk_add_behind : Value}
    (ai_Disk_add_behind : PySem.W.findIn K (.ref CDisk) "add_behind" = some (some (.ref CDisk_add_behind))) (li_Disk_add_behind : K.lookup CDisk_add_behind = some ⟨ocMDisk_add_behind, odMDisk_add_behind, .func (PySem.W.fnOf "add_behind" "Disk.add_behind" (defArgs s_Disk_add_behind) (defBody s_Disk_add_behind) (defScope s_Disk_add_behind) .none kVMDisk_add_behind dcMDisk_add_behind pmMDisk_add_behind anMDisk_add_behind cdMDisk_add_behind ctMDisk_add_behind), slMDisk_add_behind⟩) (ci_Disk_add_behind : PySem.W.codeIn K cdMDisk_add_behind "Disk.add_behind" = true) (ki_Disk_add_behind : PySem.W.keepIn K (.ref CDisk_add_behind) = true)
    {CDisk_lengthen_torn : Addr} {odMDisk_lengthen_torn anMDisk_lengthen_torn : Option Addr} {slMDisk_lengthen_torn : Array (Option Value)} {ocMDisk_lengthen_torn kVMDisk_lengthen_torn dcMDisk_lengthen_torn pmMDisk_lengthen_torn cdMDisk_lengthen_torn ctMDisk_lengthen_torn : Value}
    (ai_Disk_lengthen_torn : PySem.W.findIn K (.ref CDisk) "lengthen_torn" = some (some (.ref CDisk_lengthen_torn))) (li_Disk_lengthen_torn : K.lookup CDisk_lengthen_torn = some ⟨ocMDisk_lengthen_torn, odMDisk_lengthen_torn, .func (PySem.W.fnOf "lengthen_torn" "Disk.lengthen_torn" (defArgs s_Disk_lengthen_torn) (defBody s_Disk_lengthen_torn) (defScope s_Disk_lengthen_torn) .none kVMDisk_lengthen_torn dcMDisk_lengthen_torn pmMDisk_lengthen_torn anMDisk_lengthen_torn cdMDisk_lengthen_torn ctMDisk_lengthen_torn), slMDisk_lengthen_torn⟩) (ci_Disk_lengthen_torn : PySem.W.codeIn K cdMDisk_lengthen_torn "Disk.lengthen_torn" = true) (ki_Disk_lengthen_torn : PySem.W.keepIn K (.ref CDisk_lengthen_torn) = true)
    {CDisk_is_at_the_stop : Addr} {odMDisk_is_at_the_stop anMDisk_is_at_the_stop : Option Addr} {slMDisk_is_at_the_stop : Array (Option Value)} {ocMDisk_is_at_the_stop kVMDisk_is_at_the_stop dcMDisk_is_at_the_stop pmMDisk_is_at_the_stop cdMDisk_is_at_the_stop ctMDisk_is_at_the_stop : Value}
    (ai_Disk_is_at_the_stop : PySem.W.findIn K (.ref CDisk) "is_at_the_stop" = some (some (.ref CDisk_is_at_the_stop))) (li_Disk_is_at_the_stop : K.lookup CDisk_is_at_the_stop = some ⟨ocMDisk_is_at_the_stop, odMDisk_is_at_the_stop, .func (PySem.W.fnOf "is_at_the_stop" "Disk.is_at_the_stop" (defArgs s_Disk_is_at_the_stop) (defBody s_Disk_is_at_the_stop) (defScope s_Disk_is_at_the_stop) .none kVMDisk_is_at_the_stop dcMDisk_is_at_the_stop pmMDisk_is_at_the_stop anMDisk_is_at_the_stop cdMDisk_is_at_the_stop ctMDisk_is_at_the_stop), slMDisk_is_at_the_stop⟩) (ci_Disk_is_at_the_stop : PySem.W.codeIn K cdMDisk_is_at_the_stop "Disk.is_at_the_stop" = true) (ki_Disk_is_at_the_stop : PySem.W.keepIn K (.ref CDisk_is_at_the_stop) = true)
    {CDisk_refuse_at_the_stop : Addr} {odMDisk_refuse_at_the_stop anMDisk_refuse_at_the_stop : Option Addr} {slMDisk_refuse_at_the_stop : Array (Option Value)} {ocMDisk_refuse_at_the_stop kVMDisk_refuse_at_the_stop dcMDisk_refuse_at_the_stop pmMDisk_refuse_at_the_stop cdMDisk_refuse_at_the_stop ctMDisk_refuse_at_the_stop : Value}
    (ai_Disk_refuse_at_the_stop : PySem.W.findIn K (.ref CDisk) "refuse_at_the_stop" = some (some (.ref CDisk_refuse_at_the_stop))) (li_Disk_refuse_at_the_stop : K.lookup CDisk_refuse_at_the_stop = some ⟨ocMDisk_refuse_at_the_stop, odMDisk_refuse_at_the_stop, .func (PySem.W.fnOf "refuse_at_the_stop" "Disk.refuse_at_the_stop" (defArgs s_Disk_refuse_at_the_stop) (defBody s_Disk_refuse_at_the_stop) (defScope s_Disk_refuse_at_the_stop) .none kVMDisk_refuse_at_the_stop dcMDisk_refuse_at_the_stop pmMDisk_refuse_at_the_stop anMDisk_refuse_at_the_stop cdMDisk_refuse_at_the_stop ctMDisk_refuse_at_the_stop), slMDisk_refuse_at_the_stop⟩) (ci_Disk_refuse_at_the_stop : PySem.W.codeIn K cdMDisk_refuse_at_the_stop "Disk.refuse_at_the_stop" = true) (ki_Disk_refuse_at_the_stop : PySem.W.keepIn K (.ref CDisk_refuse_at_the_stop) = true)
    {CDisk_refuse_what_is_not_there : Addr} {odMDisk_refuse_what_is_not_there anMDisk_refuse_what_is_not_there : Option Addr} {slMDisk_refuse_what_is_not_there : Array (Option Value)} {ocMDisk_refuse_what_is_not_there kVMDisk_refuse_what_is_not_there dcMDisk_refuse_what_is_not_there pmMDisk_refuse_what_is_not_there cdMDisk_refuse_what_is_not_there ctMDisk_refuse_what_is_not_there : Value}
    (ai_Disk_refuse_what_is_not_there : PySem.W.findIn K (.ref CDisk) "refuse_what_is_not_there" = some (some (.ref CDisk_refuse_what_is_not_there))) (li_Disk_refuse_what_is_not_there : K.lookup CDisk_refuse_what_is_not_there = some ⟨ocMDisk_refuse_what_is_not_there, odMDisk_refuse_what_is_not_there, .func (PySem.W.fnOf "refuse_what_is_not_there" "Disk.refuse_what_is_not_there" (defArgs s_Disk_refuse_what_is_not_there) (defBody s_Disk_refuse_what_is_not_there) (defScope s_Disk_refuse_what_is_not_there) .none kVMDisk_refuse_what_is_not_there dcMDisk_refuse_what_is_not_there pmMDisk_refuse_what_is_not_there anMDisk_refuse_what_is_not_there cdMDisk_refuse_what_is_not_there ctMDisk_refuse_what_is_not_there), slMDisk_refuse_what_is_not_there⟩) (ci_Disk_refuse_what_is_not_there : PySem.W.codeIn K cdMDisk_refuse_what_is_not_there "Disk.refuse_what_is_not_there" = true) (ki_Disk_refuse_what_is_not_there : PySem.W.keepIn K (.ref CDisk_refuse_what_is_not_there) = true)
    (allc : (excInI K CStopped veMro "ValueError.__new__" CStopped_init, PySem.W.readsIn K CTierError (.type "type"), PySem.W.findCls K (.ref CTierError) (.type "type") "__init__", PySem.W.specialIn K (.ref CTierError) "__getattribute__", excFd K CStopped, PySem.W.mroIn K CStopped (.type "object"), PySem.W.findIn K (.ref CStopped) "__setattr__", PySem.W.findIn K (.ref CStopped) "step", PySem.W.kitCls K (.ref CStopped) (.type "BaseException"), PySem.W.findIn K (.ref CDisk) "texts", PySem.W.findIn K (.ref CDisk) "done", PySem.W.findIn K (.ref CDisk) "stops_behind", PySem.W.findIn K (.ref CDisk) "torn", PySem.W.findIn K (.ref CDisk) "refused", excInI K CNoFile veMro "ValueError.__new__" CNoFile_init, excFd K CNoFile, PySem.W.mroIn K CNoFile (.type "object"), PySem.W.findIn K (.ref CNoFile) "__setattr__", PySem.W.kitCls K (.ref CNoFile) (.type "BaseException"), PySem.W.findIn K (.ref CNoFile) "name", PySem.W.kitCls K (.ref CStopped) (.ref CStopped), PySem.W.findIn K (.ref CStopped) "__getattribute__", PySem.W.findIn K (.ref CStopped) "__getattr__", PySem.W.mroIn K CStopped (.type "BaseException"), PySem.W.hasDictIn K CStopped, PySem.W.kitCls K (.ref CNoFile) (.ref CNoFile), PySem.W.findIn K (.ref CNoFile) "__getattribute__", PySem.W.findIn K (.ref CNoFile) "__getattr__", PySem.W.mroIn K CNoFile (.type "BaseException"), PySem.W.hasDictIn K CNoFile, PySem.W.kitCls K (.ref CStopped) (.ref CNoFile), PySem.W.kitCls K (.ref CNoFile) (.ref CTierError), PySem.W.kitCls K (.ref CTierError) (.type "BaseException"), PySem.W.findIn K (.ref CNoFile) "__class__", PySem.W.specialIn K (.builtin "object.__class__") "__get__", PySem.W.takesIn K (.builtin "object.__class__"), PySem.W.kitOne K (.ref CNoFile) (.ref CStopped), PySem.W.kitOne K (.ref CNoFile) (.ref CNoFile), PySem.W.isFn K (.ref CDisk_init), PySem.W.isFn K (.ref CDisk_names), PySem.W.isFn K (.ref CDisk_has), PySem.W.isFn K (.ref CDisk_text), PySem.W.isFn K (.ref CDisk_files), PySem.W.isFn K (.ref CDisk_steps), PySem.W.isFn K (.ref CDisk_has_stopped), PySem.W.isFn K (.ref CDisk_write), PySem.W.isFn K (.ref CDisk_lengthen), PySem.W.isFn K (.ref CDisk_take_off), PySem.W.isFn K (.ref CDisk_add_behind), PySem.W.isFn K (.ref CDisk_lengthen_torn), PySem.W.isFn K (.ref CDisk_is_at_the_stop), PySem.W.isFn K (.ref CDisk_refuse_at_the_stop), PySem.W.isFn K (.ref CDisk_refuse_what_is_not_there), PySem.W.plainGet K CDisk Str.empty, PySem.W.hasDictIn K CDisk, PySem.W.plainOver K CDisk, PySem.W.findIn K (.ref CDisk) "__setattr__", PySem.W.makesIn K CDisk, PySem.W.keepIn K (.ref CDisk)) = (true, true, some (.val (.builtin "ValueError.__init__")), some (some (.builtin "type.__getattribute__")), true, some true, some (some (.builtin "object.__setattr__")), some none, some true, some none, some none, some none, some none, some none, true, true, some true, some (some (.builtin "object.__setattr__")), some true, some none, some true, some (some (.builtin "BaseException.__getattribute__")), some none, some true, true, some true, some (some (.builtin "BaseException.__getattribute__")), some none, some true, true, some false, some true, some true, some (some (.builtin "object.__class__")), some (some (.builtin "getset_descriptor.__get__")), some true, some false, some true, true, true, true, true, true, true, true, true, true, true, true, true, true, true, true, true, true, true, some (some (.builtin "object.__setattr__")), true, true))
    : ∃ fd : FuncData, (∀ (s : Shared) (v : Value), BindsTo s fd ⟨[v], []⟩ [("_law_script", v)]) ∧ ∀ base : Heap, K.In base → base.Ns mainGlobals mg → FnOk l.prog w K mg base CX0 9 fa fd ["_law_script"] (spLaw K) := by
  simp only [Prod.mk.injEq] at allc
  obtain ⟨xi_Stopped, ur_TierError, uf_TierError, ug_TierError, fd_Stopped, hm_Stopped, hs_Stopped, hf_Stopped, tb_Stopped, na1, na2, na3, na4, na5, xi_NoFile, fd_NoFile, hm_NoFile, hs_NoFile, tb_NoFile, hf_NoFile, kk_Stopped, g1_Stopped, g2_Stopped, g3_Stopped, g4_Stopped, kk_NoFile, g1_NoFile, g2_NoFile, g3_NoFile, g4_NoFile, kx, tt, tb_TierError, ha, hn, ht, o1, o2, fn_Disk_init, fn_Disk_names, fn_Disk_has, fn_Disk_text, fn_Disk_files, fn_Disk_steps, fn_Disk_has_stopped, fn_Disk_write, fn_Disk_lengthen, fn_Disk_take_off, fn_Disk_add_behind, fn_Disk_lengthen_torn, fn_Disk_is_at_the_stop, fn_Disk_refuse_at_the_stop, fn_Disk_refuse_what_is_not_there, pg_Disk, hd_Disk, po_Disk, sa_Disk, ma_Disk, kc_Disk⟩ := allc
  have e := hfa.symm.trans (PySem.W.mg_of X G a12)
  cases e
  have F1 := fun_mk (st := s__law_whole) l1 c1 k1
  have b1 := F1.binds (ps := ["_law_found"]) fun _ _ _ _ _ _ us hl => match us, hl with | [_], _ => rfl
  have F2 := fun_mk (st := s__law_cell_at) l2 c2 k2
  have b2 := F2.binds (ps := ["_law_script", "_law_k"]) fun _ _ _ _ _ _ us hl => match us, hl with | [_, _], _ => rfl
  have F3 := fun_mk (st := s__law_mixed) l3 c3 k3
  have b3 := F3.binds (ps := ["_law_cell", "_law_k"]) fun _ _ _ _ _ _ us hl => match us, hl with | [_, _], _ => rfl
  have F4 := fun_mk (st := s__law_held) l4 c4 k4
  have b4 := F4.binds (ps := ["_law_held_here"]) fun _ _ _ _ _ _ us hl => match us, hl with | [_], _ => rfl
  have F5 := fun_mk (st := s__law_name) l5 c5 k5
  have b5 := F5.binds (ps := ["_law_pick"]) fun _ _ _ _ _ _ us hl => match us, hl with | [_], _ => rfl
  have F6 := fun_mk (st := s__law_text) l6 c6 k6
  have b6 := F6.binds (ps := ["_law_cell", "_law_k"]) fun _ _ _ _ _ _ us hl => match us, hl with | [_, _], _ => rfl
  have F7 := fun_mk (st := s__law_files) l7 c7 k7
  have b7 := F7.binds (ps := ["_law_cell"]) fun _ _ _ _ _ _ us hl => match us, hl with | [_], _ => rfl
  have F8 := fun_mk (st := s__law_step) l8 c8 k8
  have b8 := F8.binds (ps := ["_law_disk", "_law_kind", "_law_name_here", "_law_text_here"]) fun _ _ _ _ _ _ us hl => match us, hl with | [_, _, _, _], _ => rfl
  have F9 := fun_mk (st := s__law_told) l9 c9 k9
  have b9 := F9.binds (ps := ["_law_disk", "_law_name_here"]) fun _ _ _ _ _ _ us hl => match us, hl with | [_, _], _ => rfl
  have F10 := fun_mk (st := s__law_way) l10 c10 k10
  have b10 := F10.binds (ps := ["_law_disk", "_law_kept", "_law_count", "_law_way_here", "_law_name_here", "_law_held_here"]) fun _ _ _ _ _ _ us hl => match us, hl with | [_, _, _, _, _, _], _ => rfl
  have F11 := fun_mk (st := s__law_looked) l11 c11 k11
  have b11 := F11.binds (ps := ["_law_disk", "_law_kept", "_law_count", "_law_pick", "_law_held_here"]) fun _ _ _ _ _ _ us hl => match us, hl with | [_, _, _, _, _], _ => rfl
  have F12 := fun_mk (st := s_law) l12 c12 k12
  have b12 := F12.binds (ps := ["_law_script"]) fun _ _ _ _ _ _ us hl => match us, hl with | [_], _ => rfl
  have FINoFile := fun_mk (st := s_NoFile_init) li_NoFile ci_NoFile ki_NoFile
  have bINoFile := FINoFile.binds (ps := ["self", "name"]) fun _ _ _ _ _ _ us hl => match us, hl with | [_, _], _ => rfl
  have FIStopped := fun_mk (st := s_Stopped_init) li_Stopped ci_Stopped ki_Stopped
  have bIStopped := FIStopped.binds (ps := ["self", "step"]) fun _ _ _ _ _ _ us hl => match us, hl with | [_, _], _ => rfl
  have FMDisk_init : FunD K "__init__" "Disk.__init__" s_Disk_init (.ref dTDisk_init) CDisk_init _ := ⟨⟨_, _, _, _, _, _, _, _, _, rfl, li_Disk_init, ci_Disk_init⟩, ki_Disk_init⟩
  have FMDisk_names : FunD K "names" "Disk.names" s_Disk_names .none CDisk_names _ := ⟨⟨_, _, _, _, _, _, _, _, _, rfl, li_Disk_names, ci_Disk_names⟩, ki_Disk_names⟩
  have FMDisk_has : FunD K "has" "Disk.has" s_Disk_has .none CDisk_has _ := ⟨⟨_, _, _, _, _, _, _, _, _, rfl, li_Disk_has, ci_Disk_has⟩, ki_Disk_has⟩
  have FMDisk_text : FunD K "text" "Disk.text" s_Disk_text .none CDisk_text _ := ⟨⟨_, _, _, _, _, _, _, _, _, rfl, li_Disk_text, ci_Disk_text⟩, ki_Disk_text⟩
  have FMDisk_files : FunD K "files" "Disk.files" s_Disk_files .none CDisk_files _ := ⟨⟨_, _, _, _, _, _, _, _, _, rfl, li_Disk_files, ci_Disk_files⟩, ki_Disk_files⟩
  have FMDisk_steps : FunD K "steps" "Disk.steps" s_Disk_steps .none CDisk_steps _ := ⟨⟨_, _, _, _, _, _, _, _, _, rfl, li_Disk_steps, ci_Disk_steps⟩, ki_Disk_steps⟩
  have FMDisk_has_stopped : FunD K "has_stopped" "Disk.has_stopped" s_Disk_has_stopped .none CDisk_has_stopped _ := ⟨⟨_, _, _, _, _, _, _, _, _, rfl, li_Disk_has_stopped, ci_Disk_has_stopped⟩, ki_Disk_has_stopped⟩
  have FMDisk_write : FunD K "write" "Disk.write" s_Disk_write .none CDisk_write _ := ⟨⟨_, _, _, _, _, _, _, _, _, rfl, li_Disk_write, ci_Disk_write⟩, ki_Disk_write⟩
  have FMDisk_lengthen : FunD K "lengthen" "Disk.lengthen" s_Disk_lengthen .none CDisk_lengthen _ := ⟨⟨_, _, _, _, _, _, _, _, _, rfl, li_Disk_lengthen, ci_Disk_lengthen⟩, ki_Disk_lengthen⟩
  have FMDisk_take_off : FunD K "take_off" "Disk.take_off" s_Disk_take_off .none CDisk_take_off _ := ⟨⟨_, _, _, _, _, _, _, _, _, rfl, li_Disk_take_off, ci_Disk_take_off⟩, ki_Disk_take_off⟩
  have FMDisk_add_behind : FunD K "add_behind" "Disk.add_behind" s_Disk_add_behind .none CDisk_add_behind _ := ⟨⟨_, _, _, _, _, _, _, _, _, rfl, li_Disk_add_behind, ci_Disk_add_behind⟩, ki_Disk_add_behind⟩
  have FMDisk_lengthen_torn : FunD K "lengthen_torn" "Disk.lengthen_torn" s_Disk_lengthen_torn .none CDisk_lengthen_torn _ := ⟨⟨_, _, _, _, _, _, _, _, _, rfl, li_Disk_lengthen_torn, ci_Disk_lengthen_torn⟩, ki_Disk_lengthen_torn⟩
  have FMDisk_is_at_the_stop : FunD K "is_at_the_stop" "Disk.is_at_the_stop" s_Disk_is_at_the_stop .none CDisk_is_at_the_stop _ := ⟨⟨_, _, _, _, _, _, _, _, _, rfl, li_Disk_is_at_the_stop, ci_Disk_is_at_the_stop⟩, ki_Disk_is_at_the_stop⟩
  have FMDisk_refuse_at_the_stop : FunD K "refuse_at_the_stop" "Disk.refuse_at_the_stop" s_Disk_refuse_at_the_stop .none CDisk_refuse_at_the_stop _ := ⟨⟨_, _, _, _, _, _, _, _, _, rfl, li_Disk_refuse_at_the_stop, ci_Disk_refuse_at_the_stop⟩, ki_Disk_refuse_at_the_stop⟩
  have FMDisk_refuse_what_is_not_there : FunD K "refuse_what_is_not_there" "Disk.refuse_what_is_not_there" s_Disk_refuse_what_is_not_there .none CDisk_refuse_what_is_not_there _ := ⟨⟨_, _, _, _, _, _, _, _, _, rfl, li_Disk_refuse_what_is_not_there, ci_Disk_refuse_what_is_not_there⟩, ki_Disk_refuse_what_is_not_there⟩
  have T : Txt K mg := { f__law_whole := ⟨_, _, F1, PySem.W.mg_of X G a1, b1⟩, f__law_cell_at := ⟨_, _, F2, PySem.W.mg_of X G a2, b2⟩, f__law_mixed := ⟨_, _, F3, PySem.W.mg_of X G a3, b3⟩, f__law_held := ⟨_, _, F4, PySem.W.mg_of X G a4, b4⟩, f__law_name := ⟨_, _, F5, PySem.W.mg_of X G a5, b5⟩, f__law_text := ⟨_, _, F6, PySem.W.mg_of X G a6, b6⟩, f__law_files := ⟨_, _, F7, PySem.W.mg_of X G a7, b7⟩, f__law_step := ⟨_, _, F8, PySem.W.mg_of X G a8, b8⟩, f__law_told := ⟨_, _, F9, PySem.W.mg_of X G a9, b9⟩, f__law_way := ⟨_, _, F10, PySem.W.mg_of X G a10, b10⟩, f__law_looked := ⟨_, _, F11, PySem.W.mg_of X G a11, b11⟩, b_bool := PySem.W.mg_none_of X G z0, b_dict := PySem.W.mg_none_of X G z1, b_e := PySem.W.mg_none_of X G z2, b_int := PySem.W.mg_none_of X G z3, b_isinstance := PySem.W.mg_none_of X G z4, b_len := PySem.W.mg_none_of X G z5, b_list := PySem.W.mg_none_of X G z6, b_min := PySem.W.mg_none_of X G z7, b_range := PySem.W.mg_none_of X G z8, b_sorted := PySem.W.mg_none_of X G z9, b_str := PySem.W.mg_none_of X G z10, cl := ⟨⟨CTierError, CNoFile, CStopped, CDisk, CDisk_init, CDisk_names, CDisk_has, CDisk_text, CDisk_files, CDisk_steps, CDisk_has_stopped, CDisk_write, CDisk_lengthen, CDisk_take_off, CDisk_add_behind, CDisk_lengthen_torn, CDisk_is_at_the_stop, CDisk_refuse_at_the_stop, CDisk_refuse_what_is_not_there, CNoFile_init, CStopped_init⟩, { i_Disk_init := ⟨_, _, FMDisk_init, ⟨_, .nil, fun s us X hl => match us, binds_len (n := 4) hl rfl with | [_, _, _, _], _ => PySem.W.binds_K X rfl ti_Disk_init rfl rfl rfl⟩, ⟨_, (.cons ⟨_, rfl⟩ .nil), fun s us X hl => match us, binds_len (n := 3) hl rfl with | [_, _, _], _ => PySem.W.binds_K X rfl ti_Disk_init rfl rfl rfl⟩, ⟨_, (.cons rfl (.cons ⟨_, rfl⟩ .nil)), fun s us X hl => match us, binds_len (n := 2) hl rfl with | [_, _], _ => PySem.W.binds_K X rfl ti_Disk_init rfl rfl rfl⟩, ⟨_, (.cons rfl (.cons rfl (.cons ⟨_, rfl⟩ .nil))), fun s us X hl => match us, binds_len (n := 1) hl rfl with | [_], _ => PySem.W.binds_K X rfl ti_Disk_init rfl rfl rfl⟩⟩, mk_Disk := ⟨ma_Disk, ai_Disk_init, fn_Disk_init, kc_Disk⟩, i_Disk_names := ⟨_, _, FMDisk_names, ⟨_, .nil, fun s us X hl => match us, binds_len (n := 1) hl rfl with | [_], _ => .of_eq rfl⟩⟩, me_Disk_names := ⟨ai_Disk_names, fn_Disk_names, ki_Disk_names⟩, i_Disk_has := ⟨_, _, FMDisk_has, ⟨_, .nil, fun s us X hl => match us, binds_len (n := 2) hl rfl with | [_, _], _ => .of_eq rfl⟩⟩, me_Disk_has := ⟨ai_Disk_has, fn_Disk_has, ki_Disk_has⟩, i_Disk_text := ⟨_, _, FMDisk_text, ⟨_, .nil, fun s us X hl => match us, binds_len (n := 2) hl rfl with | [_, _], _ => .of_eq rfl⟩⟩, me_Disk_text := ⟨ai_Disk_text, fn_Disk_text, ki_Disk_text⟩, i_Disk_files := ⟨_, _, FMDisk_files, ⟨_, .nil, fun s us X hl => match us, binds_len (n := 1) hl rfl with | [_], _ => .of_eq rfl⟩⟩, me_Disk_files := ⟨ai_Disk_files, fn_Disk_files, ki_Disk_files⟩, i_Disk_steps := ⟨_, _, FMDisk_steps, ⟨_, .nil, fun s us X hl => match us, binds_len (n := 1) hl rfl with | [_], _ => .of_eq rfl⟩⟩, me_Disk_steps := ⟨ai_Disk_steps, fn_Disk_steps, ki_Disk_steps⟩, i_Disk_has_stopped := ⟨_, _, FMDisk_has_stopped, ⟨_, .nil, fun s us X hl => match us, binds_len (n := 1) hl rfl with | [_], _ => .of_eq rfl⟩⟩, me_Disk_has_stopped := ⟨ai_Disk_has_stopped, fn_Disk_has_stopped, ki_Disk_has_stopped⟩, i_Disk_write := ⟨_, _, FMDisk_write, ⟨_, .nil, fun s us X hl => match us, binds_len (n := 3) hl rfl with | [_, _, _], _ => .of_eq rfl⟩⟩, me_Disk_write := ⟨ai_Disk_write, fn_Disk_write, ki_Disk_write⟩, i_Disk_lengthen := ⟨_, _, FMDisk_lengthen, ⟨_, .nil, fun s us X hl => match us, binds_len (n := 3) hl rfl with | [_, _, _], _ => .of_eq rfl⟩⟩, me_Disk_lengthen := ⟨ai_Disk_lengthen, fn_Disk_lengthen, ki_Disk_lengthen⟩, i_Disk_take_off := ⟨_, _, FMDisk_take_off, ⟨_, .nil, fun s us X hl => match us, binds_len (n := 2) hl rfl with | [_, _], _ => .of_eq rfl⟩⟩, me_Disk_take_off := ⟨ai_Disk_take_off, fn_Disk_take_off, ki_Disk_take_off⟩, i_Disk_add_behind := ⟨_, _, FMDisk_add_behind, ⟨_, .nil, fun s us X hl => match us, binds_len (n := 3) hl rfl with | [_, _, _], _ => .of_eq rfl⟩⟩, me_Disk_add_behind := ⟨ai_Disk_add_behind, fn_Disk_add_behind, ki_Disk_add_behind⟩, i_Disk_lengthen_torn := ⟨_, _, FMDisk_lengthen_torn, ⟨_, .nil, fun s us X hl => match us, binds_len (n := 3) hl rfl with | [_, _, _], _ => .of_eq rfl⟩⟩, me_Disk_lengthen_torn := ⟨ai_Disk_lengthen_torn, fn_Disk_lengthen_torn, ki_Disk_lengthen_torn⟩, i_Disk_is_at_the_stop := ⟨_, _, FMDisk_is_at_the_stop, ⟨_, .nil, fun s us X hl => match us, binds_len (n := 1) hl rfl with | [_], _ => .of_eq rfl⟩⟩, me_Disk_is_at_the_stop := ⟨ai_Disk_is_at_the_stop, fn_Disk_is_at_the_stop, ki_Disk_is_at_the_stop⟩, i_Disk_refuse_at_the_stop := ⟨_, _, FMDisk_refuse_at_the_stop, ⟨_, .nil, fun s us X hl => match us, binds_len (n := 1) hl rfl with | [_], _ => .of_eq rfl⟩⟩, me_Disk_refuse_at_the_stop := ⟨ai_Disk_refuse_at_the_stop, fn_Disk_refuse_at_the_stop, ki_Disk_refuse_at_the_stop⟩, i_Disk_refuse_what_is_not_there := ⟨_, _, FMDisk_refuse_what_is_not_there, ⟨_, .nil, fun s us X hl => match us, binds_len (n := 2) hl rfl with | [_, _], _ => .of_eq rfl⟩⟩, me_Disk_refuse_what_is_not_there := ⟨ai_Disk_refuse_what_is_not_there, fn_Disk_refuse_what_is_not_there, ki_Disk_refuse_what_is_not_there⟩, c_Disk := ⟨pg_Disk, hd_Disk, po_Disk, sa_Disk⟩, m_TierError := PySem.W.mg_of X G m_TierError, m_NoFile := PySem.W.mg_of X G m_NoFile, m_Stopped := PySem.W.mg_of X G m_Stopped, m_Disk := PySem.W.mg_of X G m_Disk, xi_Stopped := xi_Stopped, ur_TierError := ur_TierError, uf_TierError := uf_TierError, ug_TierError := ug_TierError, fd_Stopped := fd_Stopped, hm_Stopped := hm_Stopped, hs_Stopped := hs_Stopped, hf_Stopped := hf_Stopped, tb_Stopped := tb_Stopped, na1 := na1, na2 := na2, na3 := na3, na4 := na4, na5 := na5, xi_NoFile := xi_NoFile, fd_NoFile := fd_NoFile, hm_NoFile := hm_NoFile, hs_NoFile := hs_NoFile, tb_NoFile := tb_NoFile, hf_NoFile := hf_NoFile, kk_Stopped := kk_Stopped, g1_Stopped := g1_Stopped, g2_Stopped := g2_Stopped, g3_Stopped := g3_Stopped, g4_Stopped := g4_Stopped, kk_NoFile := kk_NoFile, g1_NoFile := g1_NoFile, g2_NoFile := g2_NoFile, g3_NoFile := g3_NoFile, g4_NoFile := g4_NoFile, kx := kx, tt := tt, tb_TierError := tb_TierError, ha := ha, hn := hn, ht := ht, o1 := o1, o2 := o2, i_NoFile := ⟨_, FINoFile, bINoFile⟩, i_Stopped := ⟨_, FIStopped, bIStopped⟩ }⟩ }
  exact ⟨_, fun s v => .of_eq rfl, fun base _ _ => ok_law T ⟨F12, PySem.W.mg_of X G a12, b12⟩⟩
theorem walk {l : PySem.W.OpenLaw} {q : Program} {loose : List Str} {XP : (Str → Option Value) → Heap → Prop} {YP : World → Heap → Prop} {d : DefRec} {K : Params → PySem.W.Frag} (hn : l.most = some 63) (hdf : d.params.defaults = [])
    (hY : ∀ (w : World) (h : Heap), YP w h → (K w.params).In h)
    (F : ∀ (w : World) (mg : Str → Option Value) (fa : Addr) (h : Heap), (K w.params).In h → h.Ns mainGlobals mg → mg d.name = some (.ref fa) →
      ∃ fd : FuncData, (∀ (s : Shared) (u : Value), BindsTo s fd ⟨[u], []⟩ [("_law_script", u)]) ∧ ∀ base : Heap, (K w.params).In base → base.Ns mainGlobals mg → FnOk l.prog w (K w.params) mg base CX0 9 fa fd ["_law_script"] (spLaw (K w.params))) :
    PySem.W.WalkO q loose XP YP l.row.toRowW d [] (fun f vs => PySem.call f vs) :=
  L2.walk_of (n := 63) (k := 9) (x := "_law_script") (CX := fun _ => CX0) (sp := fun w => spLaw (K w.params)) hn (by decide) hdf ⟨rfl, by decide, by decide⟩ hY F (fun _ _ a ns hl _ hS => ⟨a, ns, rfl, hS, hl, fun _ => rfl⟩) fun _ _ _ _ _ z => z
end T50
namespace PySem.W.Fast
def tw13912934265476984857 := ()
def tw3778381021494878961 := ()
def tw10236204905609153098 := ()
def tw11358374041053881176 := ()
def tw15502031428604898060 := ()
def tw14020167743067737237 := ()
def tw8968340257674594587 := ()
def tw15705240646812554539 := ()
def tw3192711614045838856 := ()
def tw1342824028734337161 := ()
def tw7829106838595515153 := ()
def tw8932861934305605416 := ()
def tw10315873807845854084 := ()
def tw17744405536007891272 := ()
def tw3279437577710626624 := ()
def tw195722504072909512 := ()
def tw8111062209254644674 := ()
def tw14307029893800810643 := ()
def tw10715046694049667452 := ()
def tw15904573350579042195 := ()
def tw5547966180293264148 := ()
def tw16043521614019759435 := ()
def tw13902733148180805959 := ()
def tw457728756047036162 := ()
def tw8627545634071010742 := ()
def tw9931392776264262504 := ()
def tw3062502118628534858 := ()
def tw3502125933982235714 := ()
def tw13619716335507107340 := ()
def tw9643212072896585470 := ()
def tw5077473902127047815 := ()
def tw106115948082613025 := ()
def tw6022907576590566797 := ()
def tw5140717699073165193 := ()
def tw12729514261718027100 := ()
def tw11945316680087287815 := ()
def tw11967863368476620477 := ()
def tw4469061667516997093 := ()
def tw11221062848020673116 := ()
def tw17774640266449012936 := ()
def tw1104910947590198952 := ()
def tw17415074882693151324 := ()
def tw13460856500084508802 := ()
def tw3045121744873847917 := ()
def tw3227874889474598564 := ()
def tw11361634356366537521 := ()
def tw4870138837279038293 := ()
def tw10449265501233360623 := ()
def tw6300425850669972904 := ()
def tw1717519538008532333 := ()
def tw16823852591412432540 := ()
def tw1101816264667095805 := ()
def tw16139271167467488347 := ()
def tw12898144975630930864 := ()
def tw3826840114915605339 := ()
def tw7873673640900097825 := ()
def tw15465214945921116071 := ()
def tw11777682419327304629 := ()
def tw6424718478996034136 := ()
def tw15024548793656360739 := ()
def tw8787624005934181079 := ()
def tw6450229147737275841 := ()
def tw13009409011624635097 := ()
def tw7156676871326487634 := ()
def tw12103133724948563182 := ()
def tw5711552551521612141 := ()
def tw13052052348529299428 := ()
def tw15756371194171499566 := ()
def tw14831464723877648220 := ()
def tw17644913444507454175 := ()
def tw7158893403536913771 := ()
end PySem.W.Fast
open PySem PySem.W PyProof.Rows
set_option maxRecDepth 100000 in
set_option maxHeartbeats 0 in
theorem PySem.Challenge.cw_tierstore_k50_a_disk_holds : PySem.Challenge.rw_tierstore_k50_a_disk.Holds := by
  w_on; o_law; k_head; (case hw => w_witness2)
  k_fill
  refine T50.walk (l := PySem.Challenge.rw_tierstore_k50_a_disk) rfl rfl (fun w h Y => PySem.W.kIn_of Y) ?F
  case F =>
    intro w mg fa h KX G hmg
    refine' T50.all_mk KX G hmg ?xa1 ?xl1 ?xc1 ?xk1 ?xa2 ?xl2 ?xc2 ?xk2 ?xa3 ?xl3 ?xc3 ?xk3 ?xa4 ?xl4 ?xc4 ?xk4 ?xa5 ?xl5 ?xc5 ?xk5 ?xa6 ?xl6 ?xc6 ?xk6 ?xa7 ?xl7 ?xc7 ?xk7 ?xa8 ?xl8 ?xc8 ?xk8 ?xa9 ?xl9 ?xc9 ?xk9 ?xa10 ?xl10 ?xc10 ?xk10 ?xa11 ?xl11 ?xc11 ?xk11 ?xa12 ?xl12 ?xc12 ?xk12 ?xz0 ?xz1 ?xz2 ?xz3 ?xz4 ?xz5 ?xz6 ?xz7 ?xz8 ?xz9 ?xz10 ?xm_TierError ?xm_NoFile ?xm_Stopped ?xm_Disk ?xai_NoFile ?xli_NoFile ?xci_NoFile ?xki_NoFile ?xai_Stopped ?xli_Stopped ?xci_Stopped ?xki_Stopped ?xai_Disk_init ?xli_Disk_init ?xci_Disk_init ?xki_Disk_init ?xti_Disk_init ?xai_Disk_names ?xli_Disk_names ?xci_Disk_names ?xki_Disk_names ?xai_Disk_has ?xli_Disk_has ?xci_Disk_has ?xki_Disk_has ?xai_Disk_text ?xli_Disk_text ?xci_Disk_text ?xki_Disk_text ?xai_Disk_files ?xli_Disk_files ?xci_Disk_files ?xki_Disk_files ?xai_Disk_steps ?xli_Disk_steps ?xci_Disk_steps ?xki_Disk_steps ?xai_Disk_has_stopped ?xli_Disk_has_stopped ?xci_Disk_has_stopped ?xki_Disk_has_stopped ?xai_Disk_write ?xli_Disk_write ?xci_Disk_write ?xki_Disk_write ?xai_Disk_lengthen ?xli_Disk_lengthen ?xci_Disk_lengthen ?xki_Disk_lengthen ?xai_Disk_take_off ?xli_Disk_take_off ?xci_Disk_take_off ?xki_Disk_take_off ?xai_Disk_add_behind ?xli_Disk_add_behind ?xci_Disk_add_behind ?xki_Disk_add_behind ?xai_Disk_lengthen_torn ?xli_Disk_lengthen_torn ?xci_Disk_lengthen_torn ?xki_Disk_lengthen_torn ?xai_Disk_is_at_the_stop ?xli_Disk_is_at_the_stop ?xci_Disk_is_at_the_stop ?xki_Disk_is_at_the_stop ?xai_Disk_refuse_at_the_stop ?xli_Disk_refuse_at_the_stop ?xci_Disk_refuse_at_the_stop ?xki_Disk_refuse_at_the_stop ?xai_Disk_refuse_what_is_not_there ?xli_Disk_refuse_what_is_not_there ?xci_Disk_refuse_what_is_not_there ?xki_Disk_refuse_what_is_not_there ?xallc
    (case xa1 => k_is); (case xl1 => k_is); (case xc1 => k_is); (case xk1 => k_is); (case xa2 => k_is); (case xl2 => k_is)
    (case xc2 => k_is); (case xk2 => k_is); (case xa3 => k_is); (case xl3 => k_is); (case xc3 => k_is); (case xk3 => k_is)
    (case xa4 => k_is); (case xl4 => k_is); (case xc4 => k_is); (case xk4 => k_is); (case xa5 => k_is); (case xl5 => k_is)
    (case xc5 => k_is); (case xk5 => k_is); (case xa6 => k_is); (case xl6 => k_is); (case xc6 => k_is); (case xk6 => k_is)
    (case xa7 => k_is); (case xl7 => k_is); (case xc7 => k_is); (case xk7 => k_is); (case xa8 => k_is); (case xl8 => k_is)
    (case xc8 => k_is); (case xk8 => k_is); (case xa9 => k_is); (case xl9 => k_is); (case xc9 => k_is); (case xk9 => k_is)
    (case xa10 => k_is); (case xl10 => k_is); (case xc10 => k_is); (case xk10 => k_is); (case xa11 => k_is); (case xl11 => k_is)
    (case xc11 => k_is); (case xk11 => k_is); (case xa12 => k_is); (case xl12 => k_is); (case xc12 => k_is); (case xk12 => k_is)
    (case xz0 => k_is); (case xz1 => k_is); (case xz2 => k_is); (case xz3 => k_is); (case xz4 => k_is); (case xz5 => k_is)
    (case xz6 => k_is); (case xz7 => k_is); (case xz8 => k_is); (case xz9 => k_is); (case xz10 => k_is); (case xm_TierError => k_is)
    (case xm_NoFile => k_is); (case xm_Stopped => k_is); (case xm_Disk => k_is); (case xai_NoFile => k_is); (case xli_NoFile => k_is); (case xci_NoFile => k_is)
    (case xki_NoFile => k_is); (case xai_Stopped => k_is); (case xli_Stopped => k_is); (case xci_Stopped => k_is); (case xki_Stopped => k_is); (case xai_Disk_init => k_is)
    (case xli_Disk_init => k_is); (case xci_Disk_init => k_is); (case xki_Disk_init => k_is); (case xti_Disk_init => k_is); (case xai_Disk_names => k_is); (case xli_Disk_names => k_is)
    (case xci_Disk_names => k_is); (case xki_Disk_names => k_is); (case xai_Disk_has => k_is); (case xli_Disk_has => k_is); (case xci_Disk_has => k_is); (case xki_Disk_has => k_is)
    (case xai_Disk_text => k_is); (case xli_Disk_text => k_is); (case xci_Disk_text => k_is); (case xki_Disk_text => k_is); (case xai_Disk_files => k_is); (case xli_Disk_files => k_is)
    (case xci_Disk_files => k_is); (case xki_Disk_files => k_is); (case xai_Disk_steps => k_is); (case xli_Disk_steps => k_is); (case xci_Disk_steps => k_is); (case xki_Disk_steps => k_is)
    (case xai_Disk_has_stopped => k_is); (case xli_Disk_has_stopped => k_is); (case xci_Disk_has_stopped => k_is); (case xki_Disk_has_stopped => k_is); (case xai_Disk_write => k_is); (case xli_Disk_write => k_is)
    (case xci_Disk_write => k_is); (case xki_Disk_write => k_is); (case xai_Disk_lengthen => k_is); (case xli_Disk_lengthen => k_is); (case xci_Disk_lengthen => k_is); (case xki_Disk_lengthen => k_is)
    (case xai_Disk_take_off => k_is); (case xli_Disk_take_off => k_is); (case xci_Disk_take_off => k_is); (case xki_Disk_take_off => k_is); (case xai_Disk_add_behind => k_is); (case xli_Disk_add_behind => k_is)
    (case xci_Disk_add_behind => k_is); (case xki_Disk_add_behind => k_is); (case xai_Disk_lengthen_torn => k_is); (case xli_Disk_lengthen_torn => k_is); (case xci_Disk_lengthen_torn => k_is); (case xki_Disk_lengthen_torn => k_is)
    (case xai_Disk_is_at_the_stop => k_is); (case xli_Disk_is_at_the_stop => k_is); (case xci_Disk_is_at_the_stop => k_is); (case xki_Disk_is_at_the_stop => k_is); (case xai_Disk_refuse_at_the_stop => k_is); (case xli_Disk_refuse_at_the_stop => k_is)
    (case xci_Disk_refuse_at_the_stop => k_is); (case xki_Disk_refuse_at_the_stop => k_is); (case xai_Disk_refuse_what_is_not_there => k_is); (case xli_Disk_refuse_what_is_not_there => k_is); (case xci_Disk_refuse_what_is_not_there => k_is); (case xki_Disk_refuse_what_is_not_there => k_is)
    (case xallc => kernel_rfl)
