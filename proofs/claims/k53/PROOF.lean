import PyProof.Rows.All
import Wide.All
import OpenK.AllK
import Wide.FinOn
import Lean
import PyProof.EqAt
import PyProof.EqKinds
import PyProof.TupleCall
import PyProof.NeKinds
import PyProof.ListMulRoad
import PyProof.TupleOps
import PyProof.FactsAll.tuple_2
import PyProof.Rows.SeqMore
import KE.KRevSl
import KE.KRevIter
import KE.KIntText
import PyProof.Rows.RuleB_lshift
import PyProof.Rows.StrJoin2
import PyProof.Rows.StrNews2
import PyProof.Rows.FStr
import PyProof.Rows.StrFromFirst
import PyProof.Rows.StrLawsPart
import PyProof.Rows.RegReprOcc
import PyProof.Rows.SetFrom
import PyProof.AutoSeq1
import OpenK.KRaise
import PyProof.Rows.Own
import OpenK.KOwn
import PyProof.ExcBaseAll.ValueError
import KE.KIsAll
import PyProof.ExcInit
import PyProof.ExcClass2
import OpenK.KCls
import OpenK.KWalk
import PySem.Challenge.RW_tierstore_k53_tiers_refused
set_option Elab.async false
set_option linter.all false
set_option maxRecDepth 100000
/-! THE HAND LAYER, for ints, bools, texts, own classes, LISTS and tuples (index, slices, in, append, pop ..), calls, loops. Paste it whole ahead of your own text; what your proof does not reach may be deleted. -/
namespace L2
open PySem PySem.Spec PyProof.Rows

/-- a key: an int or a str -/
abbrev Key := Sum Int Str
def keyIs : Key → Value → Bool
  | .inl k, v => Value.isInt k v
  | .inr x, v => Value.isStrOf x v
def keyH (w : World) : Key → Int
  | .inl k => hashInt k
  | .inr x => hashStr w x
theorem keyIs_shape : ∀ {k : Key} {v : Value}, keyIs k v = true → (∃ i t, k = Sum.inl i ∧ v = Value.int i t) ∨ (∃ x t, k = Sum.inr x ∧ v = Value.str x t)
  | .inl i, v, h => by
    obtain ⟨t, e⟩ := Value.isInt_shape (k := i) (v := v) h
    exact .inl ⟨i, t, rfl, e⟩
  | .inr x, v, h => by
    obtain ⟨t, e⟩ := Value.isStrOf_shape (x := x) (v := v) h
    exact .inr ⟨x, t, rfl, e⟩
theorem key_ll (a b : Int) : decide ((Sum.inl a : Key) = Sum.inl b) = (a == b) := by
  by_cases e : a = b
  · subst e; simp
  · have h : ¬ (Sum.inl a : Key) = Sum.inl b := fun q => e (Sum.inl.inj q)
    rw [decide_eq_false h]
    exact (beq_eq_false_iff_ne.mpr e).symm
theorem key_rr (a b : Str) : decide ((Sum.inr a : Key) = Sum.inr b) = decide (a = b) := by
  by_cases e : a = b
  · subst e; simp
  · have h : ¬ (Sum.inr a : Key) = Sum.inr b := fun q => e (Sum.inr.inj q)
    rw [decide_eq_false h, decide_eq_false e]
theorem key_lr (a : Int) (b : Str) : decide ((Sum.inl a : Key) = Sum.inr b) = false := decide_eq_false (fun q => nomatch q)
theorem key_rl (a : Str) (b : Int) : decide ((Sum.inr a : Key) = Sum.inl b) = false := decide_eq_false (fun q => nomatch q)

def mixKind (prog : Program) (w : World) : PySem.KeyKind prog w Key where
  is := keyIs
  hash := keyH w
  inj := fun v a b ha hb => by
    rcases keyIs_shape ha with ⟨i, t, rfl, rfl⟩ | ⟨x, t, rfl, rfl⟩
    · rcases keyIs_shape hb with ⟨j, u, rfl, e⟩ | ⟨y, u, rfl, e⟩
      · injection e with e1 _; rw [e1]
      · exact nomatch e
    · rcases keyIs_shape hb with ⟨j, u, rfl, e⟩ | ⟨y, u, rfl, e⟩
      · exact nomatch e
      · injection e with e1 _; rw [e1]
  byValue := fun k v h => by
    rcases keyIs_shape h with ⟨i, t, rfl, rfl⟩ | ⟨x, t, rfl, rfl⟩ <;> rfl
  pyHash := fun hv h => by
    rcases keyIs_shape hv with ⟨i, t, rfl, rfl⟩ | ⟨x, t, rfl, rfl⟩
    · exact wpAny_pyHash_int h
    · exact wpAny_pyHash_str h
  eqBool := fun hu hv h => by
    rcases keyIs_shape hu with ⟨i, t, rfl, rfl⟩ | ⟨x, t, rfl, rfl⟩
    · rcases keyIs_shape hv with ⟨j, u, rfl, rfl⟩ | ⟨y, u, rfl, rfl⟩
      · rw [key_ll] at h; exact wpAny_eqBool_int h
      · rw [key_lr] at h; exact SeqAt.EqAt.int_str i t y u _ _ _ _ h
    · rcases keyIs_shape hv with ⟨j, u, rfl, rfl⟩ | ⟨y, u, rfl, rfl⟩
      · rw [key_rl] at h; exact SeqAt.EqAt.str_int x t j u _ _ _ _ h
      · rw [key_rr] at h; exact wpAny_eqBool_str h
  «strs» := fun k x t v h => by
    rcases keyIs_shape h with ⟨i, u, rfl, e⟩ | ⟨y, u, rfl, e⟩
    · exact nomatch e
    · injection e with e1 _
      subst e1
      cases v <;> rfl

end L2

namespace L2
open PySem PySem.Spec PyProof.Rows

/-- a value, without the heap -/
inductive V where
  | non | bl (b : Bool) | int (i : Int) | str (x : Str) | byt (b : Array UInt8) | flt (b : UInt64) | ref (a : Addr) | ty (n : String)
  deriving DecidableEq

def RelV : V → Value → Prop
  | .non, u => u = Value.none
  | .bl b, u => u = Value.bool b
  | .int i, u => ∃ t, u = Value.int i t
  | .str x, u => ∃ t, u = Value.str x t
  | .byt b, u => ∃ t, u = Value.bytes b t
  | .flt b, u => ∃ t, u = Value.float b t
  | .ref a, u => u = Value.ref a
  | .ty n, u => u = Value.type n

abbrev Vals : List V → List Value → Prop := Paired RelV
theorem Vals.length {xs : List V} {us : List Value} (r : Vals xs us) : xs.length = us.length := Paired.length r
theorem Vals.get : ∀ {xs : List V} {us : List Value} {i : Nat} {x : V}, Vals xs us → xs[i]? = some x → ∃ u, us[i]? = some u ∧ RelV x u
  | _, _, _, _, .nil, e => by simp at e
  | _, _, 0, _, .cons r _, e => by simp at e; subst e; exact ⟨_, rfl, r⟩
  | _, _, i + 1, x, .cons _ t, e => by
    obtain ⟨u, h1, h2⟩ := Vals.get (i := i) (x := x) t (by simpa using e)
    exact ⟨u, by simpa using h1, h2⟩
theorem Vals.set {x : V} {u : Value} (r : RelV x u) : ∀ {xs : List V} {us : List Value} (i : Nat), Vals xs us → Vals (xs.set i x) (us.set i u)
  | _, _, _, .nil => .nil
  | _, _, 0, .cons _ t => .cons r t
  | _, _, i + 1, .cons q t => .cons q (Vals.set r i t)
theorem Vals.append : ∀ {xs ys : List V} {us ws : List Value}, Vals xs us → Vals ys ws → Vals (xs ++ ys) (us ++ ws)
  | _, _, _, _, .nil, s => s
  | _, _, _, _, .cons r t, s => .cons r (Vals.append t s)
theorem Vals.take : ∀ {xs : List V} {us : List Value} (n : Nat), Vals xs us → Vals (xs.take n) (us.take n)
  | _, _, 0, _ => .nil
  | _, _, _ + 1, .nil => .nil
  | _, _, n + 1, .cons r t => .cons r (Vals.take n t)
theorem Vals.drop : ∀ {xs : List V} {us : List Value} (n : Nat), Vals xs us → Vals (xs.drop n) (us.drop n)
  | _, _, 0, r => r
  | _, _, _ + 1, .nil => .nil
  | _, _, n + 1, .cons _ t => Vals.drop n t
theorem Vals.none_of : ∀ {xs : List V} {us : List Value} {i : Nat}, Vals xs us → xs[i]? = none → us[i]? = none := fun {xs us i} r e => by
  have h1 := r.length
  have h2 : xs.length ≤ i := List.getElem?_eq_none_iff.mp e
  exact List.getElem?_eq_none_iff.mpr (by omega)

def RelO : Option V → Option Value → Prop
  | some v, some u => RelV v u
  | none, none => True
  | _, _ => False
def KV {κ : Type} : List (κ × V) → List (κ × Value) → Prop := Paired fun (p : κ × V) (q : κ × Value) => p.1 = q.1 ∧ RelV p.2 q.2

/-- a key of a dict (00_mix): an int or a text -/
def kV : Key → V
  | .inl i => .int i
  | .inr x => .str x

/-- what stands at a tracked address -/
inductive HO where
  /-- a list -/
  | lst (xs : List V)
  /-- a tuple (never changes) -/
  | tup (xs : List V)
  /-- a dict whose keys are ints and texts; one whose keys are tuples of ints and texts (the empty one is both) -/
  | dK (kvs : List (Key × V)) | dT (kvs : List (List Key × V))
  /-- a set of ints: its members, its size -/
  | set (S : Int → Bool) (n : Nat)
  /-- an instance of the class at C, its dict at dx, its attributes -/
  | ins (C dx : Addr) (fs : List (Str × V))
  /-- the dict of the instance at x -/
  | own (x : Addr)
  /-- the dict of an exception -/
  | xd (fs : List (Str × V))
  /-- a bound method, f of x -/
  | met (f x : Addr)
  /-- a range object lo, lo + 1, .. below hi -/
  | rng (lo hi : Int)
  /-- a thing that is known to the object (the script; a dict while a loop walks it): read, never written while it is so -/
  | frz (o : Obj) (u : HO)
  /-- a code object's table -/
  | tbl (ps : Array Value)
  /-- any other thing, by what is true of its one object (a def of one's own: SetO a S n := HO.ext fun h => ..) -/
  | ext (φ : Heap → Prop)

abbrev Hp := Addr → Option HO
def upd (H : Hp) (a : Addr) (o : HO) : Hp := fun b => if b = a then some o else H b
theorem upd_same {H : Hp} {a : Addr} {o : HO} : upd H a o a = some o := by unfold upd; rw [if_pos rfl]
theorem upd_ne {H : Hp} {a b : Addr} {o : HO} (h : b ≠ a) : upd H a o b = H b := by unfold upd; rw [if_neg h]
/-- two objects of different content stand apart -/
theorem ne_of {H : Hp} {a b : Addr} {o u : HO} (h : H a = some o) (h' : H b = some u) (d : o ≠ u) : a ≠ b := by
  intro e; subst e; rw [h] at h'; exact d (Option.some.inj h')
theorem ne_of_none {H : Hp} {a b : Addr} {o : HO} (h : H a = some o) (h' : H b = none) : a ≠ b := by
  intro e; subst e; rw [h] at h'; cases h'

section
variable (P : Program) (w : World)
def ObjOk (H : Hp) (h : Heap) (a : Addr) : HO → Prop
  | .lst xs => xs.length ≤ sizeLine ∧ ∃ (its : List Value) (n : Nat), Vals xs its ∧ h.get? a = some { cls := .type "list", data := .seq its.toArray n }
  | .tup xs => xs.length ≤ sizeLine ∧ ∃ its : List Value, Vals xs its ∧ IsTup h a its.toArray
  | .dK kvs => kvs.length ≤ sizeLine ∧ (a == sysModules) = false ∧ ∃ vs, KV kvs vs ∧ h.DictOf (mixKind P w) a vs
  | .dT kvs => kvs.length ≤ sizeLine ∧ (a == sysModules) = false ∧ ∃ xs : List (List Key × Addr × Value),
      Paired (fun (p : List Key × V) (q : List Key × Addr × Value) => p.1 = q.1 ∧ H q.2.1 = some (.tup (p.1.map kV)) ∧ RelV p.2 q.2.2) kvs xs ∧
      ∃ o es ep, h.get? a = some o ∧ o.ExactDict ∧ o.data = .dict es ep ∧ es.toList = xs.map (entryOfKey (tupleKind (mixKind P w))) ∧ (xs.map (·.1)).Nodup
  | .set S n => h.SetOf (intKind P w) a S n
  | .ins C dx fs => H dx = some (.own a) ∧ fs.length ≤ 1000 ∧ dx ≠ a ∧ h.get? a = some (PySem.W.instObj C dx) ∧
      ∃ mA, h.Ns1 dx mA ∧ (∀ f, RelO (fs.lookup f) (mA f)) ∧ PySem.Within mA (fs.map (·.1))
  | .own _ => ∃ o, h.get? a = some o
  | .xd fs => ∃ mA, h.Ns1 a mA ∧ ∀ f, RelO (fs.lookup f) (mA f)
  | .rng lo hi => ∃ t u v, h.get? a = some { cls := .type "range", data := .fields #[.int lo t, .int hi u, .int 1 v] }
  | .frz o u => h.get? a = some o ∧ ObjOk H h a u
  | .tbl ps => h.get? a = some { cls := .none, data := .fields ps }
  | .met f x => h.get? a = some (PySem.W.methodObj (.ref f) (.ref x))
  | .ext φ => φ h ∧ (∃ o, h.get? a = some o) ∧ ∀ h1 h2 : Heap, φ h1 → (∀ o, h1.get? a = some o → h2.get? a = some o) → φ h2
/-- the abstract heap is held -/
def HOk (H : Hp) (h : Heap) : Prop := ∀ a o, H a = some o → ObjOk P w H h a o
end

section
variable {P : Program} {w : World} {H H' : Hp} {h h' : Heap} {a : Addr} {o : HO}
theorem ObjOk.lt (x : ObjOk P w H h a o) : a < h.objs.size := by
  cases o with
  | lst xs => obtain ⟨_, _, _, _, e⟩ := x; exact Heap.lt_size e
  | tup xs => obtain ⟨_, _, _, p⟩ := x; exact p.lt
  | dK kvs => obtain ⟨_, _, _, _, o, _, _, e, _⟩ := x; exact Heap.lt_size e
  | dT kvs => obtain ⟨_, _, _, _, o, _, _, e, _⟩ := x; exact Heap.lt_size e
  | set S n => obtain ⟨o, _, _, _, e, _⟩ := x; exact Heap.lt_size e
  | ins C dx fs => obtain ⟨_, _, _, e, _⟩ := x; exact Heap.lt_size e
  | own y => obtain ⟨_, e⟩ := x; exact Heap.lt_size e
  | xd fs => obtain ⟨_, ⟨_, _, _, e, _⟩, _⟩ := x; exact Heap.lt_size e
  | rng lo hi => obtain ⟨_, _, _, e⟩ := x; exact Heap.lt_size e
  | frz ob u => obtain ⟨e, _⟩ := x; exact Heap.lt_size e
  | tbl ps => exact Heap.lt_size (show h.get? a = some _ from x)
  | met f y => exact Heap.lt_size (show h.get? a = some _ from x)
  | ext φ => obtain ⟨_, ⟨_, e⟩, _⟩ := x; exact Heap.lt_size e
theorem Paired.mapP {α β : Type} {F G : α → β → Prop} : ∀ {l₁ : List α} {l₂ : List β}, Paired F l₁ l₂ → (∀ a b, F a b → G a b) → Paired G l₁ l₂
  | _, _, .nil, _ => .nil
  | _, _, .cons r t, f => .cons (f _ _ r) (Paired.mapP t f)
/-- what an object's description leans on: its own object, its own dict, the tuples -/
theorem ObjOk.stay (x : ObjOk P w H h a o) (k : ∀ b u, (b = a ∨ H b = some (.own a)) → h.get? b = some u → h'.get? b = some u)
    (ho : ∀ b, H b = some (.own a) → H' b = some (.own a)) (ht : ∀ b xs, H b = some (.tup xs) → H' b = some (.tup xs)) : ObjOk P w H' h' a o := by
  induction o with
  | lst xs => obtain ⟨z, its, n, r, e⟩ := x; exact ⟨z, its, n, r, k _ _ (.inl rfl) e⟩
  | tup xs => obtain ⟨z, its, r, ob, e, c⟩ := x; exact ⟨z, its, r, ob, k _ _ (.inl rfl) e, c⟩
  | dK kvs => obtain ⟨z, y, vs, r, ob, es, ep, e, c⟩ := x; exact ⟨z, y, vs, r, ob, es, ep, k _ _ (.inl rfl) e, c⟩
  | dT kvs =>
    obtain ⟨z, y, xs, r, ob, es, ep, e, c⟩ := x
    exact ⟨z, y, xs, Paired.mapP r fun p q z => ⟨z.1, ht _ _ z.2.1, z.2.2⟩, ob, es, ep, k _ _ (.inl rfl) e, c⟩
  | set S n => obtain ⟨ob, es, ep, t, e, c⟩ := x; exact ⟨ob, es, ep, t, k _ _ (.inl rfl) e, c⟩
  | ins C dx fs =>
    obtain ⟨d, z, ne, e, mA, ⟨od, es, ep, e2, c⟩, r⟩ := x
    exact ⟨ho _ d, z, ne, k _ _ (.inl rfl) e, mA, ⟨od, es, ep, k _ _ (.inr d) e2, c⟩, r⟩
  | own y => obtain ⟨ob, e⟩ := x; exact ⟨ob, k _ _ (.inl rfl) e⟩
  | xd fs => obtain ⟨mA, ⟨od, es, ep, e, c⟩, r⟩ := x; exact ⟨mA, ⟨od, es, ep, k _ _ (.inl rfl) e, c⟩, r⟩
  | rng lo hi => obtain ⟨t, u, v, e⟩ := x; exact ⟨t, u, v, k _ _ (.inl rfl) e⟩
  | frz ob u ih => obtain ⟨e, q⟩ := x; exact ⟨k _ _ (.inl rfl) e, ih q⟩
  | tbl ps =>
    have e : h.get? a = some { cls := .none, data := .fields ps } := x
    show h'.get? a = some { cls := .none, data := .fields ps }
    exact k a _ (.inl rfl) e
  | met f y =>
    have e : h.get? a = some (PySem.W.methodObj (.ref f) (.ref y)) := x
    show h'.get? a = some (PySem.W.methodObj (.ref f) (.ref y))
    exact k a _ (.inl rfl) e
  | ext φ => obtain ⟨p, ⟨o, e⟩, st⟩ := x; exact ⟨st _ _ p fun o q => k _ _ (.inl rfl) q, ⟨o, k _ _ (.inl rfl) e⟩, st⟩
theorem HOk.lt (x : HOk P w H h) (e : H a = some o) : a < h.objs.size := (x a o e).lt
theorem HOk.fresh (x : HOk P w H h) (e : h.objs.size ≤ a) : H a = none := by
  cases q : H a with
  | none => rfl
  | some u => exact absurd (Nat.lt_of_lt_of_le (x.lt q) e) (Nat.lt_irrefl _)
/-- every object of the heap is kept -/
theorem HOk.kept (x : HOk P w H h) (k : ∀ b u, h.get? b = some u → h'.get? b = some u) : HOk P w H h' := fun a o e =>
  (x a o e).stay (fun b u _ q => k b u q) (fun _ q => q) fun _ _ q => q
/-- a new object is laid and tracked -/
theorem HOk.laid (x : HOk P w H h) (k : ∀ b u, h.get? b = some u → h'.get? b = some u) (hp : h.objs.size ≤ a) (new : ObjOk P w (upd H a o) h' a o) : HOk P w (upd H a o) h' := fun b u e => by
  have hn := x.fresh hp
  by_cases hb : b = a
  · subst hb; rw [upd_same] at e; cases e; exact new
  · rw [upd_ne hb] at e
    exact (x b u e).stay (fun c v _ q => k c v q) (fun c q => by rw [upd_ne (ne_of_none q hn)]; exact q) fun c xs q => by rw [upd_ne (ne_of_none q hn)]; exact q
end

/-- what may be read as u: it is u, or a known u -/
def Rd (H : Hp) (a : Addr) (u : HO) : Prop := H a = some u ∨ ∃ o, H a = some (.frz o u)
theorem Rd.of {H : Hp} {a : Addr} {u : HO} (h : H a = some u) : Rd H a u := .inl h
theorem Rd.ok {P : Program} {w : World} {H : Hp} {h : Heap} {a : Addr} {u : HO} (r : Rd H a u) (x : HOk P w H h) : ObjOk P w H h a u := by
  rcases r with r | ⟨o, r⟩
  · exact x a u r
  · obtain ⟨_, q⟩ := x a _ r
    exact q
/-- what may be written -/
def Mut : Option HO → Prop
  | some (.lst _) => True
  | some (.dK _) => True
  | some (.dT _) => True
  | some (.set _ _) => True
  | some (.ins _ _ _) => True
  | some (.ext _) => True
  | _ => False
section
variable {P : Program} {w : World} {H : Hp} {h h' : Heap} {x e : Addr} {o' : HO}
/-- the object at e is changed: x itself, or the dict of the instance x -/
theorem HOk.write (ok : HOk P w H h) (mu : Mut (H x)) (he : e = x ∨ H e = some (.own x)) (k : ∀ b u, b ≠ e → h.get? b = some u → h'.get? b = some u) (heo : ∃ u, h'.get? e = some u)
    (new : ObjOk P w (upd H x o') h' x o') : HOk P w (upd H x o') h' := fun b u q => by
  have nown : ∀ c y, H c = some (.own y) → c ≠ x := fun c y r z => by subst z; rw [r] at mu; exact mu
  have ntup : ∀ c xs, H c = some (.tup xs) → c ≠ x := fun c xs r z => by subst z; rw [r] at mu; exact mu
  by_cases hb : b = x
  · subst hb; rw [upd_same] at q; cases q; exact new
  · rw [upd_ne hb] at q
    by_cases hbe : b = e
    · have q' : H b = some (.own x) := by
        rcases he with z | z
        · exact absurd (hbe.trans z) hb
        · rw [hbe]; exact z
      rw [q] at q'; cases q'
      obtain ⟨v, hv⟩ := heo
      exact ⟨v, by rw [hbe]; exact hv⟩
    · refine (ok b u q).stay (fun c v hc r => k c v ?_ r) (fun c r => by rw [upd_ne (nown c b r)]; exact r) fun c xs r => by rw [upd_ne (ntup c xs r)]; exact r
      rcases hc with rfl | hc
      · exact hbe
      · rintro rfl
        rcases he with z | z
        · exact nown c b hc z
        · rw [hc] at z; cases z; exact hb rfl
end

/-! ### kept unless tracked; of the frames at fs (the callers') the slots may change (an exception that passes writes there); of the records at ex (iterators) nothing is said -/
structure Un (fs ex : List Addr) (H H' : Hp) (h h' : Heap) : Prop where
  keep : ∀ b o, h.get? b = some o → H b = none → b ∉ fs → b ∉ ex → h'.get? b = some o
  slot : ∀ b o, h.get? b = some o → H b = none → b ∈ fs → b ∉ ex → ∃ sl, h'.get? b = some { o with slots := sl }
  free : ∀ b o, h.get? b = some o → H b = none → b ∉ ex → H' b = none
  there : ∀ b o, h.get? b = some o → b ∉ ex → ∃ o', h'.get? b = some o'
  tups : ∀ b xs, H b = some (.tup xs) → H' b = some (.tup xs)
  frzs : ∀ b o u, H b = some (.frz o u) → H' b = some (.frz o u)
  tbls : ∀ b ps, H b = some (.tbl ps) → ∃ more, H' b = some (.tbl (ps ++ more))
section
variable {fs fs' ex ex' : List Addr} {H H1 H2 : Hp} {h h1 h2 h' : Heap} {a x e : Addr} {o : HO}
theorem Un.any (u : Un fs ex H H1 h h1) {b : Addr} {ob : Obj} (q : h.get? b = some ob) (n : H b = none) (hx : b ∉ ex) : ∃ sl, h1.get? b = some { ob with slots := sl } := by
  by_cases hb : b ∈ fs
  · exact u.slot b ob q n hb hx
  · exact ⟨ob.slots, u.keep b ob q n hb hx⟩
theorem Un.trans (a : Un fs ex H H1 h h1) (b : Un fs ex H1 H2 h1 h2) : Un fs ex H H2 h h2 where
  keep := fun c ob q n hc hx => b.keep c ob (a.keep c ob q n hc hx) (a.free c ob q n hx) hc hx
  slot := fun c ob q n hc hx => by
    obtain ⟨sl, e1⟩ := a.slot c ob q n hc hx
    obtain ⟨sl', e2⟩ := b.slot c _ e1 (a.free c ob q n hx) hc hx
    exact ⟨sl', e2⟩
  free := fun c ob q n hx => by
    obtain ⟨o', e1⟩ := a.there c ob q hx
    exact b.free c o' e1 (a.free c ob q n hx) hx
  there := fun c ob q hx => by
    obtain ⟨o', e1⟩ := a.there c ob q hx
    exact b.there c o' e1 hx
  tups := fun c xs q => b.tups c xs (a.tups c xs q)
  frzs := fun c ob xs q => b.frzs c ob xs (a.frzs c ob xs q)
  tbls := fun c ps q => by
    obtain ⟨m1, e1⟩ := a.tbls c ps q
    obtain ⟨m2, e2⟩ := b.tbls c _ e1
    exact ⟨m1 ++ m2, by rw [e2, Array.append_assoc]⟩
theorem Un.kept (k : ∀ b u, h.get? b = some u → h'.get? b = some u) : Un fs ex H H h h' :=
  ⟨fun b ob q _ _ _ => k b ob q, fun b ob q _ _ _ => ⟨ob.slots, k b ob q⟩, fun _ _ _ n _ => n, fun b ob q _ => ⟨ob, k b ob q⟩, fun _ _ q => q, fun _ _ _ q => q, fun _ ps q => ⟨#[], by rw [q]; simp⟩⟩
theorem Un.refl : Un fs ex H H h h := Un.kept fun _ _ q => q
theorem Un.laid (k : ∀ b u, h.get? b = some u → h'.get? b = some u) (hp : h.objs.size ≤ a) (hn : H a = none) : Un fs ex H (upd H a o) h h' where
  keep := fun b u q _ _ _ => k b u q
  slot := fun b u q _ _ _ => ⟨u.slots, k b u q⟩
  free := fun b u q n _ => by rw [upd_ne (Nat.ne_of_lt (Nat.lt_of_lt_of_le (Heap.lt_size q) hp))]; exact n
  there := fun b u q _ => ⟨u, k b u q⟩
  tups := fun b xs q => by rw [upd_ne (ne_of_none q hn)]; exact q
  frzs := fun b u xs q => by rw [upd_ne (ne_of_none q hn)]; exact q
  tbls := fun b ps q => ⟨#[], by rw [upd_ne (ne_of_none q hn), q]; simp⟩
theorem Un.write (mu : Mut (H x)) (he : e = x ∨ H e = some (.own x)) (k : ∀ b u, b ≠ e → h.get? b = some u → h'.get? b = some u) (heo : ∃ u, h'.get? e = some u) : Un fs ex H (upd H x o) h h' := by
  have hx : ∀ b, H b = none → b ≠ x := fun b n z => by subst z; rw [n] at mu; exact mu
  have hb : ∀ b, H b = none → b ≠ e := fun b n z => by
    subst z
    rcases he with r | r
    · exact hx b n r
    · rw [n] at r; cases r
  have hm : ∀ b u, H b = some u → ¬ Mut (some u) → b ≠ x := fun b u q nm z => by subst z; rw [q] at mu; exact nm mu
  refine ⟨fun b u q n _ _ => k b u (hb b n) q, fun b u q n _ _ => ⟨u.slots, k b u (hb b n) q⟩, fun b u q n _ => by rw [upd_ne (hx b n)]; exact n, fun b u q _ => ?_,
    fun b xs q => by rw [upd_ne (hm b _ q fun z => z)]; exact q, fun b u xs q => by rw [upd_ne (hm b _ q fun z => z)]; exact q, fun b ps q => ⟨#[], by rw [upd_ne (hm b _ q fun z => z), q]; simp⟩⟩
  by_cases hbe : b = e
  · subst hbe; exact heo
  · exact ⟨u, k b u hbe q⟩
theorem Un.mono (u : Un fs ex H H1 h h1) (hs : ∀ b ∈ fs, b ∈ fs') (hx : ∀ b ∈ ex, b ∈ ex') : Un fs' ex' H H1 h h1 :=
  ⟨fun b ob q n hb he => u.keep b ob q n (fun z => hb (hs b z)) fun z => he (hx b z), fun _ _ q n _ he => u.any q n fun z => he (hx _ z), fun b ob q n he => u.free b ob q n fun z => he (hx b z), fun b ob q he => u.there b ob q fun z => he (hx b z), u.tups, u.frzs, u.tbls⟩
end

/-! ### the heap without what is tracked -/
def trk (h : Heap) (H : Hp) : List Addr := (List.range h.objs.size).filter fun a => (H a).isSome
def hidT (h : Heap) (H : Hp) : Heap := PySem.W.hideAll h (trk h H)
theorem hidT_size (h : Heap) (H : Hp) : (hidT h H).objs.size = h.objs.size := PySem.W.hideAll_size _ _
theorem hidT_get {h : Heap} {H : Hp} {b : Addr} {o : Obj} (e : h.get? b = some o) (n : H b = none) : (hidT h H).get? b = some o :=
  PySem.W.hideAll_get _ e fun hm => by
    have q : (H b).isSome = true := (List.mem_filter.mp hm).2
    rw [n] at q; simp at q
theorem of_hidT {h : Heap} {H : Hp} {b : Addr} {o : Obj} (e : (hidT h H).get? b = some o) : h.get? b = some o ∧ H b = none := by
  have e' : h.get? b = some o := PySem.W.of_hideAll (trk h H) e
  refine ⟨e', ?_⟩
  cases q : H b with
  | none => rfl
  | some x =>
    have hm : b ∈ trk h H := List.mem_filter.mpr ⟨List.mem_range.mpr (Heap.lt_size e'), by simp [q]⟩
    have z : (hidT h H).get? b = none := PySem.W.hideAll_none (trk h H) hm
    rw [z] at e; cases e

/-! ### OpenK's ledger, filled with every new object but one -/
def allNews (g h : Heap) (L : Addr) : List (Addr × Obj) := (List.range h.objs.size).filterMap fun a => if a = L ∨ (g.get? a).isSome = true then none else (h.get? a).map fun o => (a, o)
def rest (g h : Heap) (L d : Addr) : List (Addr × Obj) := (allNews g h L).filter fun p => decide (p.1 ≠ d)
end L2

namespace L2
open PySem PySem.Spec PyProof.Rows

/-- the module's facts, over the base: the heap at the law's entry without what is tracked there -/
structure Mod (K : PySem.W.Frag) (mg : Str → Option Value) (base : Heap) : Prop where
  kin : K.In base
  glob : base.Ns mainGlobals mg
  blt : ∃ mb, base.Ns builtinsNs mb ∧ ∀ x : Str, x ≠ "__name__" → mb x = bootBuiltins x
  nolimit : base.NoLimit

/-- the context: a def's body (or a comprehension's block) running. base: fixed through the whole law; s₀, H₀: the entry; outer: the frames whose slots others may change (a def's callers); stack: all frames that run;
   ex: iterators that were made ahead of the entry and are walked here (a comprehension's); fn: the names whose cells were made at the entry (a def: all; a comprehension's block: its own); calm: not within an except suite; pn: pins that every state bears; xe: what is wanted of an exception that leaves the code -/
structure Cx where
  prog : Program
  w : World
  K : PySem.W.Frag
  mg : Str → Option Value
  base : Heap
  A : Around
  N : List Str
  s₀ : Shared
  H₀ : Hp
  env : Env
  outer : List Env
  stack : List Env
  ex : List Addr
  fn : Str → Bool
  calm : Bool
  pn : List (Addr × Obj)
  xe : Value → Shared → Prop
/-- the callers' frames -/
def frs (l : List Env) : List Addr := l.filterMap (·.frame)
abbrev Cx.fs (X : Cx) : List Addr := frs X.outer

def Vis (sc : Scope) (x : Str) : Prop := sc.names.lookup x = some .local ∨ sc.names.lookup x = some .cell ∨ sc.names.lookup x = some .free
def Loc (sc : Scope) (x : Str) : Prop := sc.names.lookup x = some .local ∨ sc.names.lookup x = some .cell
def Look (env : Env) (h : Heap) (m : Str → Option Value) (x : Str) (u : Value) : Prop :=
  (env.kindOf x = some .local ∧ m x = some u) ∨ ((env.kindOf x = some .cell ∨ env.kindOf x = some .free) ∧ ∃ c, env.cells.lookup x = some c ∧ h.IsCell c (some u))

structure Cx.Ok (X : Cx) : Prop where
  mod : Mod X.K X.mg X.base
  kind : X.env.scope.kind = .function
  glob : X.env.globals = mainGlobals
  blt : X.env.builtins = builtinsNs
  above : X.s₀.heap.objs.size ≤ X.env.locals
  inj : ∀ x y c, X.env.cells.lookup x = some c → X.env.cells.lookup y = some c → x = y
  has : ∀ x, (X.env.kindOf x = some .cell ∨ X.env.kindOf x = some .free) → ∃ c, X.env.cells.lookup x = some c
  cab : ∀ x c, X.fn x = true → X.env.cells.lookup x = some c → X.s₀.heap.objs.size ≤ c
  hd : X.calm = true → X.A.handled = none
  frames : X.A.frames = some X.stack
  stk : X.stack = X.outer ∨ (X.stack = X.env :: X.outer ∧ X.env.frame = some X.env.locals)
  exf : ∀ b ∈ X.ex, b ≠ X.env.locals ∧ ∀ x c, X.env.cells.lookup x = some c → c ≠ b
  bs : ∀ b o, X.base.get? b = some o → X.s₀.heap.get? b = some o ∧ X.H₀ b = none
  bsz : X.base.objs.size ≤ X.s₀.heap.objs.size
  noex : ∀ b o, X.base.get? b = some o → b ∉ X.ex
  exfs : ∀ b ∈ X.ex, b ∉ X.fs
  funs : X.s₀.heap.FunFrames X.base X.outer
  frf : ∀ b ∈ X.fs, X.H₀ b = none

structure Inv (X : Cx) (pins : List (Addr × Obj)) (σ : List (Option V)) (H : Hp) (s : Shared) : Prop where
  ok : X.Ok
  os : s.os = X.s₀.os
  bare : AllBare s.gens
  base : Un X.fs X.ex X.H₀ H X.s₀.heap s.heap
  loc : ∃ m, s.heap.Ns X.env.locals m ∧ ∀ (i : Nat) (x : Str) (v : V), X.N[i]? = some x → σ[i]? = some (some v) → Vis X.env.scope x → ∃ u, RelV v u ∧ Look X.env s.heap m x u
  cell : ∀ x c, X.env.cells.lookup x = some c → ∃ v, s.heap.IsCell c v
  free : H X.env.locals = none
  freeC : ∀ x c, X.env.cells.lookup x = some c → H c = none
  pin : ∀ p ∈ X.pn ++ pins, s.heap.get? p.1 = some p.2 ∧ H p.1 = none ∧ p.1 ≠ X.env.locals ∧ p.1 ∉ X.fs ∧ ∀ v, p.2.data ≠ .cell v
  hok : HOk X.prog X.w H s.heap
  len : σ.length = X.N.length

section
variable {X : Cx} {pins : List (Addr × Obj)} {σ : List (Option V)} {H H' : Hp} {s : Shared} {h' : Heap}

theorem Cx.Ok.nofr (ok : X.Ok) {b : Addr} {o : Obj} (e : X.base.get? b = some o) : b ∉ X.fs := fun hb => by
  have := (ok.funs.mem hb).1
  rw [e] at this; cases this
theorem Inv.bs (I : Inv X pins σ H s) : ∀ b o, X.base.get? b = some o → s.heap.get? b = some o ∧ H b = none := fun b o e =>
  ⟨I.base.keep b o (I.ok.bs b o e).1 (I.ok.bs b o e).2 (I.ok.nofr e) (I.ok.noex b o e), I.base.free b o (I.ok.bs b o e).1 (I.ok.bs b o e).2 (I.ok.noex b o e)⟩
theorem Inv.bk (I : Inv X pins σ H s) : ∀ b o, X.base.get? b = some o → s.heap.get? b = some o := fun b o e => (I.bs b o e).1
theorem Inv.mod (I : Inv X pins σ H s) : Mod X.K X.mg X.base := I.ok.mod
theorem Inv.kIn (I : Inv X pins σ H s) : X.K.In s.heap := I.ok.mod.kin.keeps I.bk
theorem Inv.nolimit (I : Inv X pins σ H s) : s.heap.NoLimit := I.ok.mod.nolimit.keeps I.bk
/-- the frame over the base: for OpenK's rules (K.In X.base is I.mod.kin) -/
theorem Inv.fr (I : Inv X pins σ H s) : ∃ m, Fr X.base X.env.locals s.heap m :=
  let ⟨m, hn, _⟩ := I.loc
  ⟨m, hn, I.bk, Nat.le_trans I.ok.bsz I.ok.above⟩
theorem Inv.lt (I : Inv X pins σ H s) : X.env.locals < s.heap.objs.size := let ⟨_, hn, _⟩ := I.loc; hn.lt
theorem Inv.sz (I : Inv X pins σ H s) : X.s₀.heap.objs.size ≤ s.heap.objs.size := Nat.le_trans I.ok.above (Nat.le_of_lt I.lt)
theorem Inv.nofs (I : Inv X pins σ H s) {a : Addr} (h : s.heap.objs.size ≤ a) : a ∉ X.fs := fun hb => by
  obtain ⟨_, o, ho, _⟩ := I.ok.funs.mem hb
  exact absurd (Nat.lt_of_lt_of_le (Heap.lt_size ho) (Nat.le_trans I.sz h)) (Nat.lt_irrefl _)
theorem Inv.cne (I : Inv X pins σ H s) : ∀ x c, X.env.cells.lookup x = some c → c ≠ X.env.locals := fun x c e z => by
  obtain ⟨v, o, ho, hd⟩ := I.cell x c e
  obtain ⟨m, ⟨o', es, ep, ho', hd', _⟩, _⟩ := I.loc
  rw [z, ho'] at ho; cases ho; rw [hd'] at hd; cases hd
theorem Inv.funs (I : Inv X pins σ H s) : s.heap.FunFrames X.base X.outer := by
  have all : ∀ (l : List Env), (∀ b ∈ frs l, b ∈ X.fs) → X.s₀.heap.FunFrames X.base l → s.heap.FunFrames X.base l := by
    intro l
    induction l with
    | nil => intro _ _; trivial
    | cons env r ih =>
      intro hs hl
      obtain ⟨hk, ⟨L, o, hf, hn, ho, hd⟩, hr⟩ := hl
      have hL : L ∈ X.fs := hs L (by unfold frs; rw [List.filterMap_cons, hf]; exact List.mem_cons_self)
      obtain ⟨sl, e⟩ := I.base.slot L o ho (I.ok.frf L hL) hL fun z => I.ok.exfs L z hL
      exact ⟨hk, ⟨L, _, hf, hn, e, hd⟩, ih (fun b hb => hs b (by unfold frs; rw [List.filterMap_cons, hf]; exact List.mem_cons_of_mem _ hb)) hr⟩
  exact all X.outer (fun _ hb => hb) I.ok.funs

/-- the frames that run, for a call -/
theorem Inv.stack (I : Inv X pins σ H s) : s.heap.FunFrames X.base X.stack := by
  rcases I.ok.stk with e | ⟨e, hf⟩
  · rw [e]; exact I.funs
  · rw [e]
    obtain ⟨m, hn, _⟩ := I.loc
    refine .cons (by rw [I.ok.kind]; decide) hf hn ?_ I.funs
    exact Heap.get?_none_of_le (Nat.le_trans I.ok.bsz I.ok.above)
theorem Inv.stkSub (I : Inv X pins σ H s) : ∀ b ∈ frs X.stack, b ∈ X.env.locals :: X.fs := fun b hb => by
  rcases I.ok.stk with e | ⟨e, hf⟩
  · rw [e] at hb; exact List.mem_cons_of_mem _ hb
  · rw [e] at hb
    unfold frs at hb
    rw [List.filterMap_cons, hf] at hb
    exact hb
theorem Inv.stkFree (I : Inv X pins σ H s) : ∀ b ∈ frs X.stack, H b = none := fun b hb => by
  rcases List.mem_cons.mp (I.stkSub b hb) with e | hb
  · rw [e]; exact I.free
  · obtain ⟨_, o, ho, _⟩ := I.ok.funs.mem hb
    exact I.base.free b o ho (I.ok.frf b hb) fun z => I.ok.exfs b z hb

/-- THE STEP: the untracked objects but the frame and the records at ch are kept (the callers' frames up to slots), the frame's map is kept, the new abstract heap is held -/
theorem Inv.step {g' : Array GenState} {t' : Nat} {d' : Drawn} {ch : List Addr} (I : Inv X pins σ H s)
    (hch : ∀ b ∈ ch, (b ∈ X.ex ∨ X.s₀.heap.objs.size ≤ b) ∧ b ≠ X.env.locals ∧ (∀ x c, X.env.cells.lookup x = some c → c ≠ b) ∧ ∀ p ∈ X.pn ++ pins, p.1 ≠ b)
    (keep : ∀ b o, b ≠ X.env.locals → b ∉ X.fs → b ∉ ch → s.heap.get? b = some o → H b = none → h'.get? b = some o)
    (slot : ∀ b o, b ≠ X.env.locals → b ∈ X.fs → b ∉ ch → s.heap.get? b = some o → H b = none → ∃ sl, h'.get? b = some { o with slots := sl }) (free : ∀ b o, b ∉ ch → s.heap.get? b = some o → H b = none → H' b = none)
    (there : ∀ b o, b ∉ ch → s.heap.get? b = some o → ∃ o', h'.get? b = some o')
    (tups : ∀ b xs, H b = some (.tup xs) → H' b = some (.tup xs)) (frzs : ∀ b o u, H b = some (.frz o u) → H' b = some (.frz o u)) (tbls : ∀ b ps, H b = some (.tbl ps) → ∃ more, H' b = some (.tbl (ps ++ more)))
    (ns : ∀ m, s.heap.Ns X.env.locals m → h'.Ns X.env.locals m) (hok : HOk X.prog X.w H' h') (hg : AllBare g') :
    Inv X pins σ H' { s with heap := h', gens := g', drawn := d', toks := t' } := by
  have neL : ∀ b o, X.s₀.heap.get? b = some o → b ≠ X.env.locals := fun b o e => Nat.ne_of_lt (Nat.lt_of_lt_of_le (Heap.lt_size e) I.ok.above)
  have neC : ∀ b o, X.s₀.heap.get? b = some o → b ∉ X.ex → b ∉ ch := fun b o e hx hb => by
    rcases (hch b hb).1 with z | z
    · exact hx z
    · exact absurd (Nat.lt_of_lt_of_le (Heap.lt_size e) z) (Nat.lt_irrefl _)
  have cellK : ∀ x c, X.env.cells.lookup x = some c → ∀ v, s.heap.IsCell c v → h'.IsCell c v := fun x c e v ⟨o, ho, hd⟩ => by
    have nch : c ∉ ch := fun z => (hch c z).2.2.1 x c e rfl
    by_cases hc : c ∈ X.fs
    · obtain ⟨sl, q⟩ := slot c o (I.cne x c e) hc nch ho (I.freeC x c e)
      exact ⟨_, q, hd⟩
    · exact ⟨o, keep c o (I.cne x c e) hc nch ho (I.freeC x c e), hd⟩
  refine ⟨I.ok, I.os, hg, ⟨fun b o e n hb hx => ?_, fun b o e n hb hx => ?_, fun b o e n hx => ?_, fun b o e hx => ?_, fun b xs e => tups b xs (I.base.tups b xs e), fun b o xs e => frzs b o xs (I.base.frzs b o xs e), fun b ps e => ?_⟩, ?_, fun x c e => ?_, ?_, fun x c e => ?_, fun p hp => ?_, hok, I.len⟩
  · exact keep b o (neL b o e) hb (neC b o e hx) (I.base.keep b o e n hb hx) (I.base.free b o e n hx)
  · obtain ⟨sl, e1⟩ := I.base.slot b o e n hb hx
    obtain ⟨sl', e2⟩ := slot b _ (neL b o e) hb (neC b o e hx) e1 (I.base.free b o e n hx)
    exact ⟨sl', e2⟩
  · obtain ⟨o', e1⟩ := I.base.there b o e hx
    exact free b o' (neC b o e hx) e1 (I.base.free b o e n hx)
  · obtain ⟨o', e1⟩ := I.base.there b o e hx
    exact there b o' (neC b o e hx) e1
  · obtain ⟨m1, e1⟩ := I.base.tbls b ps e
    obtain ⟨m2, e2⟩ := tbls b _ e1
    exact ⟨m1 ++ m2, by rw [e2, Array.append_assoc]⟩
  · obtain ⟨m, hn, hl⟩ := I.loc
    refine ⟨m, ns m hn, fun i x v e1 e2 e3 => ?_⟩
    obtain ⟨u, r, l⟩ := hl i x v e1 e2 e3
    refine ⟨u, r, ?_⟩
    rcases l with l | ⟨k, c, e, z⟩
    · exact .inl l
    · exact .inr ⟨k, c, e, cellK x c e _ z⟩
  · obtain ⟨v, z⟩ := I.cell x c e
    exact ⟨v, cellK x c e v z⟩
  · obtain ⟨m, ⟨o, _, _, ho, _⟩, _⟩ := I.loc
    exact free _ o (fun z => (hch _ z).2.1 rfl) ho I.free
  · obtain ⟨v, o, ho, hd⟩ := I.cell x c e
    exact free c o (fun z => (hch c z).2.2.1 x c e rfl) ho (I.freeC x c e)
  · obtain ⟨e, n, ne, nf, d⟩ := I.pin p hp
    have nch : p.1 ∉ ch := fun z => (hch p.1 z).2.2.2 p hp rfl
    exact ⟨keep p.1 p.2 ne nf nch e n, free p.1 p.2 nch e n, ne, nf, d⟩
/-- .. where the frame's own object is kept too -/
theorem Inv.un {t' : Nat} (I : Inv X pins σ H s) (u : Un X.fs [] H H' s.heap h') (hok : HOk X.prog X.w H' h') : Inv X pins σ H' { s with heap := h', toks := t' } := by
  obtain ⟨m, ⟨o, es, ep, ho, r⟩, _⟩ := id I.loc
  obtain ⟨sl, hL⟩ := u.any ho I.free (by simp)
  exact I.step (g' := s.gens) (d' := s.drawn) (ch := []) (fun _ z => nomatch z) (fun b o _ hb _ e n => u.keep b o e n hb (by simp)) (fun b o _ hb _ e n => u.slot b o e n hb (by simp)) (fun b o _ e n => u.free b o e n (by simp)) (fun b o _ e => u.there b o e (by simp)) u.tups u.frzs u.tbls (fun m' hm => by
    obtain ⟨o', es', ep', ho', r'⟩ := hm
    rw [ho] at ho'; cases ho'
    exact ⟨_, es', ep', hL, r'⟩) hok I.bare
/-- behind a call (or a comprehension's block): the slots of this frame may have changed too, the records at ch may have turned -/
theorem Inv.call {g' : Array GenState} {t' : Nat} {d' : Drawn} {ch : List Addr} (I : Inv X pins σ H s) (u : Un (frs X.stack) ch H H' s.heap h') (hok : HOk X.prog X.w H' h') (hg : AllBare g')
    (hch : ∀ b ∈ ch, (b ∈ X.ex ∨ X.s₀.heap.objs.size ≤ b) ∧ b ≠ X.env.locals ∧ (∀ x c, X.env.cells.lookup x = some c → c ≠ b) ∧ ∀ p ∈ X.pn ++ pins, p.1 ≠ b) :
    Inv X pins σ H' { s with heap := h', gens := g', drawn := d', toks := t' } := by
  obtain ⟨m, ⟨o, es, ep, ho, r⟩, _⟩ := id I.loc
  obtain ⟨sl, hL⟩ := u.any ho I.free fun z => (hch _ z).2.1 rfl
  exact I.step (ch := ch) hch (fun b o hL hb hc e n => u.keep b o e n (fun z => (List.mem_cons.mp (I.stkSub b z)).elim hL hb) hc) (fun b o _ _ hc e n => u.any e n hc) (fun b o hc e n => u.free b o e n hc) (fun b o hc e => u.there b o e hc) u.tups u.frzs u.tbls (fun m' hm => by
    obtain ⟨o', es', ep', ho', r'⟩ := hm
    rw [ho] at ho'; cases ho'
    exact ⟨_, es', ep', hL, r'⟩) hok hg
/-- an untracked record of ours (an iterator) has turned -/
theorem Inv.turned {t' : Nat} {it : Addr} (I : Inv X pins σ H s) (k : ∀ b o, b ≠ it → s.heap.get? b = some o → h'.get? b = some o) (hn : H it = none) (hL : it ≠ X.env.locals)
    (h1 : it ∈ X.ex ∨ X.s₀.heap.objs.size ≤ it) (h2 : ∀ x c, X.env.cells.lookup x = some c → c ≠ it) (h3 : ∀ p ∈ X.pn ++ pins, p.1 ≠ it) : Inv X pins σ H { s with heap := h', toks := t' } := by
  have nit : ∀ b u, H b = some u → b ≠ it := fun b u e z => by rw [z, hn] at e; cases e
  refine I.step (g' := s.gens) (d' := s.drawn) (ch := [it]) (fun b hb => ?_) (fun b o _ _ hc e _ => k b o (fun z => hc (by simp [z])) e) (fun b o _ _ hc e _ => ⟨o.slots, k b o (fun z => hc (by simp [z])) e⟩) (fun _ _ _ _ n => n)
    (fun b o hc e => ⟨o, k b o (fun z => hc (by simp [z])) e⟩) (fun _ _ e => e) (fun _ _ _ e => e) (fun b ps e => ⟨#[], by rw [e]; simp⟩) (fun m hm => ?_) (fun b u e => ?_) I.bare
  · have e : b = it := by simpa using hb
    subst e
    exact ⟨h1, hL, h2, h3⟩
  · obtain ⟨o, es, ep, ho, r⟩ := hm
    exact ⟨o, es, ep, k _ o (Ne.symm hL) ho, r⟩
  · refine (I.hok b u e).stay (fun c v hc q => k c v ?_ q) (fun _ q => q) fun _ _ q => q
    rcases hc with z | z
    · rw [z]; exact nit b u e
    · exact nit c _ z
theorem Inv.tok (I : Inv X pins σ H s) (t : Nat) : Inv X pins σ H { s with toks := t } := I.un (h' := s.heap) (t' := t) Un.refl I.hok
/-- all objects kept -/
theorem Inv.kept {t' : Nat} (I : Inv X pins σ H s) (k : ∀ b u, s.heap.get? b = some u → h'.get? b = some u) : Inv X pins σ H { s with heap := h', toks := t' } := I.un (Un.kept k) (I.hok.kept k)
/-- a new object laid and tracked -/
theorem Inv.laid {a : Addr} {o : HO} {t' : Nat} (I : Inv X pins σ H s) (k : ∀ b u, s.heap.get? b = some u → h'.get? b = some u) (hp : s.heap.objs.size ≤ a) (new : ObjOk X.prog X.w (upd H a o) h' a o) :
    Inv X pins σ (upd H a o) { s with heap := h', toks := t' } := I.un (Un.laid k hp (I.hok.fresh hp)) (I.hok.laid k hp new)
/-- an object written -/
theorem Inv.write {x e : Addr} {o : HO} {t' : Nat} (I : Inv X pins σ H s) (mu : Mut (H x)) (he : e = x ∨ H e = some (.own x)) (k : ∀ b u, b ≠ e → s.heap.get? b = some u → h'.get? b = some u) (heo : ∃ u, h'.get? e = some u)
    (new : ObjOk X.prog X.w (upd H x o) h' x o) : Inv X pins σ (upd H x o) { s with heap := h', toks := t' } := I.un (Un.write mu he k heo) (I.hok.write mu he k heo new)
theorem Inv.pins_of {pins' : List (Addr × Obj)} (I : Inv X pins σ H s) (h : ∀ p ∈ pins', s.heap.get? p.1 = some p.2 ∧ H p.1 = none ∧ p.1 ≠ X.env.locals ∧ p.1 ∉ X.fs ∧ ∀ v, p.2.data ≠ .cell v) : Inv X pins' σ H s :=
  ⟨I.ok, I.os, I.bare, I.base, I.loc, I.cell, I.free, I.freeC, fun p hp => (List.mem_append.mp hp).elim (fun z => I.pin p (List.mem_append_left _ z)) (h p), I.hok, I.len⟩

theorem nodup_ix {N : List Str} (hN : N.Nodup) {i j : Nat} {x : Str} (a : N[i]? = some x) (b : N[j]? = some x) : i = j := by
  obtain ⟨h1, e1⟩ := List.getElem?_eq_some_iff.mp a
  obtain ⟨h2, e2⟩ := List.getElem?_eq_some_iff.mp b
  exact (List.getElem_inj hN).mp (e1.trans e2.symm)

/-- a name is stored; what changed -/
theorem store_ok2 {M : Model} {A : Around} {E : Value → Shared → Prop} {i : Nat} {x : Str} {v : V} {u : Value} {Q : Unit → Shared → Prop} (I : Inv X pins σ H s) (hN : X.N.Nodup) (hi : X.N[i]? = some x) (hx : Loc X.env.scope x) (r : RelV v u)
    (h : ∀ s', Inv X pins (σ.set i (some v)) H s' → (∃ a, Heap.SameBut a s.heap s'.heap ∧ (a = X.env.locals ∨ X.env.cells.lookup x = some a)) → Q () s') (hf : X.fn x = true ∨ X.env.scope.names.lookup x = some .local := by first | exact .inl rfl | exact .inr rfl | assumption) : wpAny M A (storeName X.env x u) Q E s := by
  obtain ⟨m, hn, hl⟩ := id I.loc
  have hcls : (X.env.scope.kind == .class || (X.env.scope.kind == .module && X.env.locals != X.env.globals)) = false := by rw [I.ok.kind]; rfl
  have hiσ : i < σ.length := by rw [I.len]; exact (List.getElem?_eq_some_iff.mp hi).1
  have cne := I.cne
  have tracked : ∀ {a : Addr} {h' : Heap}, (∃ o, s.heap.get? a = some o ∧ H a = none) → Heap.SameBut a s.heap h' → HOk X.prog X.w H h' := fun {a h'} ha hs b ob e => by
    obtain ⟨_, _, hfree⟩ := ha
    refine (I.hok b ob e).stay (fun c w' hc q => (hs.2 c ?_).trans q) (fun _ q => q) fun _ _ q => q
    rintro rfl
    rcases hc with rfl | hc
    · rw [hfree] at e; cases e
    · rw [hfree] at hc; cases hc
  rcases hx with hk | hk
  · refine wpAny_storeName_local hk hn (fun h' hn' hs => ?_) hcls
    obtain ⟨oL, _, _, hoL, _⟩ := id hn
    refine h _ ⟨I.ok, I.os, I.bare, ⟨fun b o e n hb hx => ?_, fun b o e n hb hx => ?_, I.base.free, fun b o e hx => ?_, I.base.tups, I.base.frzs, I.base.tbls⟩, ⟨_, hn', fun j y v' e1 e2 e3 => ?_⟩, fun y c e => ?_, I.free, I.freeC, fun p hp => ?_, tracked ⟨oL, hoL, I.free⟩ hs, by simpa using I.len⟩ ⟨_, hs, .inl rfl⟩
    · exact (hs.2 b (Nat.ne_of_lt (Nat.lt_of_lt_of_le (Heap.lt_size e) I.ok.above))).trans (I.base.keep b o e n hb hx)
    · obtain ⟨sl, e1⟩ := I.base.slot b o e n hb hx
      exact ⟨sl, (hs.2 b (Nat.ne_of_lt (Nat.lt_of_lt_of_le (Heap.lt_size e) I.ok.above))).trans e1⟩
    · obtain ⟨o', e1⟩ := I.base.there b o e hx
      exact ⟨o', (hs.2 b (Nat.ne_of_lt (Nat.lt_of_lt_of_le (Heap.lt_size e) I.ok.above))).trans e1⟩
    · by_cases hj : j = i
      · subst hj
        rw [hi] at e1; cases e1
        rw [List.getElem?_set_self hiσ] at e2
        cases e2
        exact ⟨u, r, .inl ⟨hk, by simp⟩⟩
      · rw [List.getElem?_set_ne (Ne.symm hj)] at e2
        obtain ⟨u', r', q⟩ := hl j y v' e1 e2 e3
        refine ⟨u', r', ?_⟩
        rcases q with ⟨k, e⟩ | ⟨k, c, e, z⟩
        · refine .inl ⟨k, ?_⟩
          have : y ≠ x := fun e => hj (nodup_ix hN e1 (e ▸ hi))
          simp [this, e]
        · exact .inr ⟨k, c, e, z.sameBut hs (cne y c e)⟩
    · obtain ⟨w', z⟩ := I.cell y c e
      exact ⟨w', z.sameBut hs (cne y c e)⟩
    · obtain ⟨e, n, ne, nf, d⟩ := I.pin p hp
      exact ⟨(hs.2 p.1 ne).trans e, n, ne, nf, d⟩
  · have hfn : X.fn x = true := by
      rcases hf with z | z
      · exact z
      · rw [z] at hk; cases hk
    obtain ⟨c, hc⟩ := I.ok.has x (.inl hk)
    obtain ⟨w', z⟩ := I.cell x c hc
    refine wpAny_storeName_cell I.ok.kind hk hc z (fun h' hc' hs => ?_)
    obtain ⟨oc, hoc, hocd⟩ := id z
    refine h { s with heap := h' } ⟨I.ok, I.os, I.bare, ⟨fun b o e n hb hx => ?_, fun b o e n hb hx => ?_, I.base.free, fun b o e hx => ?_, I.base.tups, I.base.frzs, I.base.tbls⟩, ⟨m, hn.sameBut hs (Ne.symm (cne x c hc)), fun j y v' e1 e2 e3 => ?_⟩, fun y c' e => ?_, I.free, I.freeC, fun p hp => ?_, tracked ⟨oc, hoc, I.freeC x c hc⟩ hs, by simpa using I.len⟩ ⟨c, hs, .inr hc⟩
    · exact (hs.2 b (Nat.ne_of_lt (Nat.lt_of_lt_of_le (Heap.lt_size e) (I.ok.cab x c hfn hc)))).trans (I.base.keep b o e n hb hx)
    · obtain ⟨sl, e1⟩ := I.base.slot b o e n hb hx
      exact ⟨sl, (hs.2 b (Nat.ne_of_lt (Nat.lt_of_lt_of_le (Heap.lt_size e) (I.ok.cab x c hfn hc)))).trans e1⟩
    · obtain ⟨o', e1⟩ := I.base.there b o e hx
      exact ⟨o', (hs.2 b (Nat.ne_of_lt (Nat.lt_of_lt_of_le (Heap.lt_size e) (I.ok.cab x c hfn hc)))).trans e1⟩
    · by_cases hj : j = i
      · subst hj
        rw [hi] at e1; cases e1
        rw [List.getElem?_set_self hiσ] at e2
        cases e2
        exact ⟨u, r, .inr ⟨.inl hk, c, hc, hc'⟩⟩
      · rw [List.getElem?_set_ne (Ne.symm hj)] at e2
        obtain ⟨u', r', q⟩ := hl j y v' e1 e2 e3
        refine ⟨u', r', ?_⟩
        rcases q with q | ⟨k, c', e, z'⟩
        · exact .inl q
        · refine .inr ⟨k, c', e, z'.sameBut hs ?_⟩
          rintro rfl
          exact hj (nodup_ix hN e1 (I.ok.inj _ _ _ e hc ▸ hi))
    · by_cases hcc : c' = c
      · subst hcc; exact ⟨_, hc'⟩
      · obtain ⟨w2, z2⟩ := I.cell y c' e
        exact ⟨w2, z2.sameBut hs hcc⟩
    · obtain ⟨e, n, ne, nf, d⟩ := I.pin p hp
      refine ⟨(hs.2 p.1 ?_).trans e, n, ne, nf, d⟩
      intro q
      rw [q, hoc] at e
      have q' : oc = p.2 := Option.some.inj e
      exact d w' (by rw [← q']; exact hocd)
theorem store_ok {M : Model} {A : Around} {E : Value → Shared → Prop} {i : Nat} {x : Str} {v : V} {u : Value} {Q : Unit → Shared → Prop} (I : Inv X pins σ H s) (hN : X.N.Nodup) (hi : X.N[i]? = some x) (hx : Loc X.env.scope x) (r : RelV v u)
    (h : ∀ s', Inv X pins (σ.set i (some v)) H s' → Q () s') (hf : X.fn x = true ∨ X.env.scope.names.lookup x = some .local := by first | exact .inl rfl | exact .inr rfl | assumption) : wpAny M A (storeName X.env x u) Q E s :=
  store_ok2 I hN hi hx r (fun s' I' _ => h s' I') hf
/-- behind a call or a block, the state as it is -/
theorem Inv.call' {s' : Shared} {ch : List Addr} (I : Inv X pins σ H s) (ho : s'.os = s.os) (u : Un (frs X.stack) ch H H' s.heap s'.heap) (hok : HOk X.prog X.w H' s'.heap) (hg : AllBare s'.gens)
    (hch : ∀ b ∈ ch, (b ∈ X.ex ∨ X.s₀.heap.objs.size ≤ b) ∧ b ≠ X.env.locals ∧ (∀ x c, X.env.cells.lookup x = some c → c ≠ b) ∧ ∀ p ∈ X.pn ++ pins, p.1 ≠ b) : Inv X pins σ H' s' := by
  obtain ⟨h', g', d', t', o'⟩ := s'
  have e : o' = s.os := ho
  subst e
  exact I.call (g' := g') (t' := t') (d' := d') u hok hg hch
end

/-! ### the judgements -/
/-- an exception: its class, its own dict's address (where it has one), the abstract heap behind it -/
abbrev XK := Value → Option Addr → Hp → Prop
abbrev St := List (Option V)
abbrev VK := V → Hp → Prop
/-- an expression's reading; a test's; an argument list's -/
abbrev TE := St → Hp → VK → Prop
abbrev TT := St → Hp → (Bool → Hp → Prop) → Prop
abbrev TA := St → Hp → (List V → Hp → Prop) → Prop
/-- what is wanted behind a statement -/
structure Ends where
  nx : St → Hp → Prop
  rt : VK
  bk : St → Hp → Prop := fun _ _ => False
  ct : St → Hp → Prop := fun _ _ => False
abbrev TS := Ends → St → Hp → Prop

def EP (X : Cx) (pins : List (Addr × Obj)) (σ : St) (Q : VK) (u : Value) (s' : Shared) : Prop := ∃ v H', Inv X pins σ H' s' ∧ RelV v u ∧ Q v H'
def TP (X : Cx) (pins : List (Addr × Obj)) (σ : St) (Q : Bool → Hp → Prop) (b : Bool) (s' : Shared) : Prop := ∃ H', Inv X pins σ H' s' ∧ Q b H'
def AP (X : Cx) (pins : List (Addr × Obj)) (σ : St) (Q : List V → Hp → Prop) (us : List Value) (s' : Shared) : Prop := ∃ vs H', Inv X pins σ H' s' ∧ Vals vs us ∧ Q vs H'
def SP (X : Cx) (pins : List (Addr × Obj)) (D : Ends) (f : Flow) (s' : Shared) : Prop :=
  match f with
  | .next => ∃ σ' H', Inv X pins σ' H' s' ∧ D.nx σ' H'
  | .brk => ∃ σ' H', Inv X pins σ' H' s' ∧ D.bk σ' H'
  | .cont => ∃ σ' H', Inv X pins σ' H' s' ∧ D.ct σ' H'
  | .ret u => ∃ v σ' H', Inv X pins σ' H' s' ∧ RelV v u ∧ D.rt v H'

def PE (X : Cx) (e : Expr) (t : TE) : Prop :=
  ∀ (pins : List (Addr × Obj)) (s : Shared) (σ : St) (H : Hp) (Q : VK), Inv X pins σ H s → t σ H Q → wpAny (model X.prog X.w) X.A (eval e X.env) (EP X pins σ Q) X.xe s
def PT (X : Cx) (e : Expr) (t : TT) : Prop :=
  ∀ (pins : List (Addr × Obj)) (s : Shared) (σ : St) (H : Hp) (Q : Bool → Hp → Prop), Inv X pins σ H s → t σ H Q → wpAny (model X.prog X.w) X.A (isTrue e X.env (eval e X.env)) (TP X pins σ Q) X.xe s
/-- a test whatever its 'whole' is (and, or) -/
def PW (X : Cx) (e : Expr) (t : TT) : Prop :=
  ∀ (whole : Sem Value) (pins : List (Addr × Obj)) (s : Shared) (σ : St) (H : Hp) (Q : Bool → Hp → Prop), Inv X pins σ H s → t σ H Q → wpAny (model X.prog X.w) X.A (isTrue e X.env whole) (TP X pins σ Q) X.xe s
theorem PW.pt {X : Cx} {e : Expr} {t : TT} (h : PW X e t) : PT X e t := h _
/-- an argument list (no star), from the left -/
def PA (X : Cx) (es : List Expr) (t : TA) : Prop :=
  ∀ (pos : Pos) (pins : List (Addr × Obj)) (s : Shared) (σ : St) (H : Hp) (Q : List V → Hp → Prop), Inv X pins σ H s → t σ H Q → wpAny (model X.prog X.w) X.A (spliced (backTo pos (starEach es X.env))) (AP X pins σ Q) X.xe s
def PS (X : Cx) (st : Stmt) (t : TS) : Prop :=
  ∀ (pins : List (Addr × Obj)) (s : Shared) (σ : St) (H : Hp) (D : Ends), Inv X pins σ H s → t D σ H → wpAny (model X.prog X.w) X.A (exec st X.env) (SP X pins D) X.xe s
def PSs (X : Cx) (st : List Stmt) (t : TS) : Prop :=
  ∀ (pins : List (Addr × Obj)) (s : Shared) (σ : St) (H : Hp) (D : Ends), Inv X pins σ H s → t D σ H → wpAny (model X.prog X.w) X.A (execs st X.env) (SP X pins D) X.xe s
/-- weaken the end -/
theorem thn {α : Type} {t : Sem α} {Q Q' : α → Shared → Prop} {M : Model} {A : Around} {E : Value → Shared → Prop} {s : Shared} (h : wpAny M A t Q E s) (hQ : ∀ a s, Q a s → Q' a s) : wpAny M A t Q' E s := wpAny_mono h hQ fun _ _ x => x
end L2

namespace L2
open PySem PySem.Spec PyProof.Rows
section
variable {X : Cx}

/-! ### names and constants -/
def tVar (i : Nat) : TE := fun σ H Q => ∃ v, σ[i]? = some (some v) ∧ Q v H
def tC (v : V) : TE := fun _ H Q => Q v H
theorem pe_var {i : Nat} {x : Str} {pos : Pos} (hN : X.N[i]? = some x) (hv : Vis X.env.scope x) (hd : (x == ("__debug__" : Str)) = false := by decide) (hcd : (x == ("__classdict__" : Str)) = false := by decide) : PE X (.Name x pos) (tVar i) := by
  intro pins s σ H Q I h
  obtain ⟨v, e, h⟩ := h
  obtain ⟨m, hn, hl⟩ := I.loc
  obtain ⟨u, r, l⟩ := hl i x v hN e hv
  have fin : EP X pins σ Q u s := ⟨v, H, I, r, h⟩
  rcases l with ⟨hk, hm⟩ | ⟨hk, c, hc, hcell⟩
  · exact wpAny_Name (wpAny_loadName_local I.ok.kind hk hn hm fin) hd
  · rcases hk with hk | hk
    · exact wpAny_Name (wpAny_loadName_cell I.ok.kind hk hc hcell fin) hd
    · exact wpAny_Name (wpAny_loadName_free I.ok.kind hk hc hcell fin hcd) hd
theorem pe_int {i j pos} : PE X (.Constant (.int i) j pos) (tC (.int i)) := fun _ _ _ H _ I h => wpAny_Constant_int ⟨.int i, H, I.tok _, ⟨_, rfl⟩, h⟩
theorem pe_bl {b j pos} : PE X (.Constant (.bool b) j pos) (tC (.bl b)) := fun _ _ _ H _ I h => Constant_bool ⟨.bl b, H, I, rfl, h⟩
theorem pe_non {j pos} : PE X (.Constant .none j pos) (tC .non) := fun _ _ _ H _ I h => Constant_none ⟨.non, H, I, rfl, h⟩
theorem pe_str {x j pos} : PE X (.Constant (.str x) j pos) (tC (.str x)) := fun _ _ _ H _ I h => Calls.Constant_str ⟨.str x, H, I.tok _, ⟨_, rfl⟩, h⟩

/-- a global name of the def -/
def Gl (X : Cx) (x : Str) : Prop := X.env.kindOf x = some .globalImplicit
theorem ld_glob {E : Value → Shared → Prop} {pins : List (Addr × Obj)} {s : Shared} {σ : St} {H : Hp} {x : Str} {u : Value} {pos : Pos} {Q : Value → Shared → Prop} (I : Inv X pins σ H s) (hg : Gl X x) (hm : X.mg x = some u) (h : Q u s)
    (hd : (x == ("__debug__" : Str)) = false := by decide) : wpAny (model X.prog X.w) X.A (eval (.Name x pos) X.env) Q E s :=
  Calls.Name_function_global I.ok.kind hg (Calls.loadGlobal_global (by rw [I.ok.glob]; exact I.mod.glob.keeps I.bk) hm h) hd
theorem ld_blt {E : Value → Shared → Prop} {pins : List (Addr × Obj)} {s : Shared} {σ : St} {H : Hp} {x : Str} {u : Value} {pos : Pos} {Q : Value → Shared → Prop} (I : Inv X pins σ H s) (hg : Gl X x) (hm : X.mg x = none) (hv : bootBuiltins x = some u) (h : Q u s)
    (hn : x ≠ "__name__" := by decide) (hd : (x == ("__debug__" : Str)) = false := by decide) : wpAny (model X.prog X.w) X.A (eval (.Name x pos) X.env) Q E s := by
  obtain ⟨mb, h1, h2⟩ := I.mod.blt
  exact Calls.Name_function_global I.ok.kind hg (Calls.loadGlobal_builtin (by rw [I.ok.glob]; exact I.mod.glob.keeps I.bk) hm (by rw [I.ok.blt]; exact h1.keeps I.bk) ((h2 x hn).trans hv) h) hd
/-- a module's constant, a class, a function, as a value -/
theorem pe_glob {x : Str} {v : V} {u : Value} {pos : Pos} (hg : Gl X x) (hm : X.mg x = some u) (r : RelV v u) (hd : (x == ("__debug__" : Str)) = false := by decide) : PE X (.Name x pos) (tC v) :=
  fun _ _ _ H _ I h => ld_glob I hg hm ⟨v, H, I, r, h⟩ hd
theorem pe_bltn {x : Str} {v : V} {u : Value} {pos : Pos} (hg : Gl X x) (hm : X.mg x = none) (hv : bootBuiltins x = some u) (r : RelV v u) (hn : x ≠ "__name__" := by decide) (hd : (x == ("__debug__" : Str)) = false := by decide) : PE X (.Name x pos) (tC v) :=
  fun _ _ _ H _ I h => ld_blt I hg hm hv ⟨v, H, I, r, h⟩ hn hd

/-! ### arithmetic -/
/-- two ints -/
def t2I (ta tb : TE) (k : Int → Int → Hp → Prop) : St → Hp → Prop := fun σ H => ta σ H fun x H1 => tb σ H1 fun y H2 => ∃ i j, x = .int i ∧ y = .int j ∧ k i j H2
def tAdd (ta tb : TE) : TE := fun σ H Q => t2I ta tb (fun i j H2 => Q (.int (i + j)) H2) σ H
def tSub (ta tb : TE) : TE := fun σ H Q => t2I ta tb (fun i j H2 => Q (.int (i - j)) H2) σ H
/-- the left factor below 2^64 -/
def tMul (ta tb : TE) : TE := fun σ H Q => t2I ta tb (fun i j H2 => (-(2 ^ 64) < i ∧ i < 2 ^ 64) ∧ Q (.int (i * j)) H2) σ H
variable {a b : Expr} {ta tb : TE} {pos : Pos}
/-! ### comparisons -/
def PC (X : Cx) (op : CmpOp) (a b : Expr) (t : TE) : Prop :=
  ∀ (pins : List (Addr × Obj)) (s : Shared) (σ : St) (H : Hp) (Q : VK), Inv X pins σ H s → t σ H Q →
    wpAny (model X.prog X.w) X.A (eval a X.env) (fun v s₁ => wpAny (model X.prog X.w) X.A (eval b X.env) (fun u s₂ => wpAny (model X.prog X.w) X.A (compareOp op v u) (EP X pins σ Q) X.xe s₂) X.xe s₁) X.xe s
def tCmp (p : Int → Int → Bool) (ta tb : TE) : TE := fun σ H Q => t2I ta tb (fun i j H2 => Q (.bl (p i j)) H2) σ H
abbrev tLt : TE → TE → TE := tCmp fun i j => decide (i < j)
abbrev tLe : TE → TE → TE := tCmp fun i j => decide (i ≤ j)
abbrev tGt : TE → TE → TE := tCmp fun i j => decide (j < i)
abbrev tGe : TE → TE → TE := tCmp fun i j => decide (j ≤ i)
abbrev tEqI : TE → TE → TE := tCmp fun i j => decide (i = j)
abbrev tNeI : TE → TE → TE := tCmp fun i j => !decide (i = j)
/-- is None -/
def tIsN (ta : TE) : TE := fun σ H Q => ta σ H fun x H1 => Q (.bl (decide (x = .non))) H1
def tNotN (ta : TE) : TE := fun σ H Q => ta σ H fun x H1 => Q (.bl (!decide (x = .non))) H1
/-- a comparison as a value, as a test -/
def tB (t : TE) : TT := fun σ H Q => t σ H fun x H1 => ∃ c, x = .bl c ∧ Q c H1
/-- an expression whose value is a bool, as a test -/
theorem pt_val {e : Expr} {t : TE} (h : PE X e t) (he : ∀ whole, isTrue e X.env whole = (do let v ← whole; standAt e.pos; holding [v] (truthy v)) := by intro _; rfl) : PT X e (tB t) := by
  intro pins s σ H Q I hw
  refine isTrue_plain (thn (h pins s σ H _ I hw) fun v s1 ⟨x, H1, I1, r1, q1⟩ => ?_) (he _)
  obtain ⟨d, rfl, q⟩ := q1
  cases r1
  exact wpAny_truthy_bool ⟨H1, I1, q⟩

/-! ### and, or, not -/
variable {tA tB' : TT} {rest : List Expr}
def tAnd (t u : TT) : TT := fun σ H Q => t σ H fun c H1 => if c = true then u σ H1 Q else Q false H1
def tOr (t u : TT) : TT := fun σ H Q => t σ H fun c H1 => if c = true then Q true H1 else u σ H1 Q
def tNot (t : TT) : TT := fun σ H Q => t σ H fun c H1 => Q (!c) H1
theorem pw_and1 (ha : PT X a tA) : PW X (.BoolOp .And [a] pos) tA := by
  intro wh pins s σ H Q I h
  refine isTrue_and (thn (ha pins s σ H Q I h) fun c s1 e => ?_)
  cases c with
  | true => exact isTrue_and_nil e
  | false => exact e
theorem pw_or1 (ha : PT X a tA) : PW X (.BoolOp .Or [a] pos) tA := by
  intro wh pins s σ H Q I h
  refine isTrue_or (thn (ha pins s σ H Q I h) fun c s1 e => ?_)
  cases c with
  | false => exact isTrue_or_nil e
  | true => exact e
theorem pw_and (ha : PT X a tA) (hb : PW X (.BoolOp .And (b :: rest) pos) tB') : PW X (.BoolOp .And (a :: b :: rest) pos) (tAnd tA tB') := by
  intro wh pins s σ H Q I h
  refine isTrue_and (thn (ha pins s σ H _ I h) fun c s1 ⟨H1, I1, q1⟩ => ?_)
  cases c with
  | true => exact hb wh pins s1 σ H1 Q I1 q1
  | false => exact ⟨H1, I1, q1⟩
theorem pw_or (ha : PT X a tA) (hb : PW X (.BoolOp .Or (b :: rest) pos) tB') : PW X (.BoolOp .Or (a :: b :: rest) pos) (tOr tA tB') := by
  intro wh pins s σ H Q I h
  refine isTrue_or (thn (ha pins s σ H _ I h) fun c s1 ⟨H1, I1, q1⟩ => ?_)
  cases c with
  | true => exact ⟨H1, I1, q1⟩
  | false => exact hb wh pins s1 σ H1 Q I1 q1
theorem pt_not (ha : PT X a tA) : PT X (.UnaryOp .Not a pos) (tNot tA) := by
  intro pins s σ H Q I h
  exact isTrue_not (ha pins s σ H (fun c H1 => Q (!c) H1) I h)
/-- .. as values (bools) -/
def tAndV (ta tb : TE) : TE := fun σ H Q => ta σ H fun x H1 => ∃ c, x = .bl c ∧ if c = true then tb σ H1 Q else Q (.bl false) H1
def tOrV (ta tb : TE) : TE := fun σ H Q => ta σ H fun x H1 => ∃ c, x = .bl c ∧ if c = true then Q (.bl true) H1 else tb σ H1 Q
def tNotV (ta : TE) : TE := fun σ H Q => ta σ H fun x H1 => ∃ c, x = .bl c ∧ Q (.bl (!c)) H1
theorem pe_one {op} {t : TE} (h : PE X a t) : PE X (.BoolOp op [a] pos) t := fun pins s σ H Q I hw => BoolOp_one (h pins s σ H Q I hw)
theorem pe_and (ha : PE X a ta) (hb : PE X (.BoolOp .And (b :: rest) pos) tb) : PE X (.BoolOp .And (a :: b :: rest) pos) (tAndV ta tb) := by
  intro pins s σ H Q I h
  refine BoolOp_and (thn (ha pins s σ H _ I h) fun v s1 ⟨x, H1, I1, r1, q1⟩ => ?_)
  obtain ⟨c, rfl, q1⟩ := q1
  cases r1
  refine wpAny_truthy_bool ?_
  cases c with
  | true => exact hb pins s1 σ H1 Q I1 q1
  | false => exact ⟨.bl false, H1, I1, rfl, q1⟩
theorem pe_not (ha : PE X a ta) : PE X (.UnaryOp .Not a pos) (tNotV ta) := by
  intro pins s σ H Q I h
  refine UnaryOp_ (thn (ha pins s σ H _ I h) fun v s1 ⟨x, H1, I1, r1, q1⟩ => ?_)
  obtain ⟨c, rfl, q1⟩ := q1
  cases r1
  exact not_of (wpAny_truthy_bool ⟨.bl (!c), H1, I1, rfl, q1⟩)
/-- a if t else b -/
def tIf (t : TT) (ta tb : TE) : TE := fun σ H Q => t σ H fun c H1 => if c = true then ta σ H1 Q else tb σ H1 Q
theorem pe_ifExp {c : Expr} (hc : PT X c tA) (ha : PE X a ta) (hb : PE X b tb) : PE X (.IfExp c a b pos) (tIf tA ta tb) := by
  intro pins s σ H Q I h
  refine wpAny_IfExp (thn (hc pins s σ H _ I h) fun d s1 ⟨H1, I1, q1⟩ => ?_)
  cases d with
  | true => exact ha pins s1 σ H1 Q I1 q1
  | false => exact hb pins s1 σ H1 Q I1 q1
end
end L2

namespace L2
open PySem PySem.Spec PyProof.Rows

/-! ### a list, a tuple that is read: tracked, frozen, or an object of the module -/
def SqL (K : PySem.W.Frag) (H : Hp) (a : Addr) (xs : List V) : Prop :=
  Rd H a (.lst xs) ∨
    ∃ (o : Obj) (its : Array Value) (n : Nat), K.lookup a = some o ∧ o.cls = .type "list" ∧ o.dict = none ∧ o.data = .seq its n ∧ its.size ≤ sizeLine ∧ Vals xs its.toList
def SqT (K : PySem.W.Frag) (H : Hp) (a : Addr) (xs : List V) : Prop :=
  Rd H a (.tup xs) ∨
    ∃ (o : Obj) (its : Array Value) (n : Nat), K.lookup a = some o ∧ o.cls = .type "tuple" ∧ o.data = .seq its n ∧ its.size ≤ sizeLine ∧ Vals xs its.toList
def absV : Value → Option V
  | .none => some .non
  | .bool b => some (.bl b)
  | .int i _ => some (.int i)
  | .str x _ => some (.str x)
  | .bytes b _ => some (.byt b)
  | .float b _ => some (.flt b)
  | .ref a => some (.ref a)
  | .type n => some (.ty n)
  | _ => none
theorem RelV.abs {x : V} {u : Value} (r : RelV x u) : absV u = some x := by
  cases x with
  | non => cases r; rfl
  | bl _ => cases r; rfl
  | int _ => obtain ⟨t, rfl⟩ := r; rfl
  | str _ => obtain ⟨t, rfl⟩ := r; rfl
  | byt _ => obtain ⟨t, rfl⟩ := r; rfl
  | flt _ => obtain ⟨t, rfl⟩ := r; rfl
  | ref _ => cases r; rfl
  | ty _ => cases r; rfl
theorem RelV.inj {x y : V} {u : Value} (r : RelV x u) (q : RelV y u) : x = y := Option.some.inj (r.abs.symm.trans q.abs)
theorem Vals.inj : ∀ {xs ys : List V} {us : List Value}, Vals xs us → Vals ys us → xs = ys
  | _, _, _, .nil, .nil => rfl
  | _, _, _, .cons r t, .cons r' t' => by rw [r.inj r', Vals.inj t t']
section
variable {X : Cx} {pins : List (Addr × Obj)} {σ : St} {H : Hp} {s : Shared} {a : Addr} {xs ys : List V}
theorem SqL.of {K : PySem.W.Frag} (h : H a = some (.lst xs)) : SqL K H a xs := .inl (.inl h)
theorem SqT.of {K : PySem.W.Frag} (h : H a = some (.tup xs)) : SqT K H a xs := .inl (.inl h)
theorem Inv.list (I : Inv X pins σ H s) (h : SqL X.K H a xs) : ∃ its : List Value, Vals xs its ∧ PlainL s.heap a its.toArray ∧ xs.length ≤ sizeLine := by
  rcases h with h | ⟨o, its, n, hk, hc, hd, hs, hz, r⟩
  · obtain ⟨z, its, n, r, e⟩ := h.ok I.hok
    exact ⟨its, r, ⟨_, n, e, rfl, rfl, rfl⟩, z⟩
  · refine ⟨its.toList, r, ⟨o, n, I.kIn a o hk, hc, hd, by simpa using hs⟩, ?_⟩
    have e := r.length
    simp only [Array.length_toList] at e
    omega
theorem Inv.tuple (I : Inv X pins σ H s) (h : SqT X.K H a xs) : ∃ its : List Value, Vals xs its ∧ IsTup s.heap a its.toArray ∧ xs.length ≤ sizeLine := by
  rcases h with h | ⟨o, its, n, hk, hc, hs, hz, r⟩
  · obtain ⟨z, its, r, p⟩ := h.ok I.hok
    exact ⟨its, r, p, z⟩
  · refine ⟨its.toList, r, ⟨o, I.kIn a o hk, hc, n, by simpa using hs⟩, ?_⟩
    have e := r.length
    simp only [Array.length_toList] at e
    omega
theorem Inv.list_inj (I : Inv X pins σ H s) (h : SqL X.K H a xs) (h' : SqL X.K H a ys) : xs = ys := by
  obtain ⟨its, r, ⟨o, n, e, _, _, d⟩, _⟩ := I.list h
  obtain ⟨its', r', ⟨o', n', e', _, _, d'⟩, _⟩ := I.list h'
  rw [e] at e'; cases e'
  rw [d] at d'
  injection d' with d1 _
  have : its = its' := by simpa using congrArg Array.toList d1
  subst this
  exact r.inj r'
theorem Inv.tuple_inj (I : Inv X pins σ H s) (h : SqT X.K H a xs) (h' : SqT X.K H a ys) : xs = ys := by
  obtain ⟨its, r, ⟨o, e, _, n, d⟩, _⟩ := I.tuple h
  obtain ⟨its', r', ⟨o', e', _, n', d'⟩, _⟩ := I.tuple h'
  rw [e] at e'; cases e'
  rw [d] at d'
  injection d' with d1 _
  have : its = its' := by simpa using congrArg Array.toList d1
  subst this
  exact r.inj r'
end

/-! ### another wish about exceptions -/
abbrev Cx.wish (X : Cx) (E : Value → Shared → Prop) : Cx := { X with xe := E }
/-- no exception leaves -/
abbrev Cx.nox (X : Cx) : Cx := X.wish fun _ _ => False
theorem Cx.Ok.wish {X : Cx} (ok : X.Ok) (E : Value → Shared → Prop) : (X.wish E).Ok :=
  ⟨ok.mod, ok.kind, ok.glob, ok.blt, ok.above, ok.inj, ok.has, ok.cab, ok.hd, ok.frames, ok.stk, ok.exf, ok.bs, ok.bsz, ok.noex, ok.exfs, ok.funs, ok.frf⟩
theorem Cx.Ok.unwish {X : Cx} {E : Value → Shared → Prop} (ok : (X.wish E).Ok) : X.Ok :=
  ⟨ok.mod, ok.kind, ok.glob, ok.blt, ok.above, ok.inj, ok.has, ok.cab, ok.hd, ok.frames, ok.stk, ok.exf, ok.bs, ok.bsz, ok.noex, ok.exfs, ok.funs, ok.frf⟩
section
variable {X : Cx} {pins : List (Addr × Obj)} {σ : St} {H : Hp} {s : Shared} {E : Value → Shared → Prop}
theorem Inv.wish (I : Inv X pins σ H s) (E : Value → Shared → Prop) : Inv (X.wish E) pins σ H s := ⟨I.ok.wish E, I.os, I.bare, I.base, I.loc, I.cell, I.free, I.freeC, I.pin, I.hok, I.len⟩
theorem Inv.unwish (I : Inv (X.wish E) pins σ H s) : Inv X pins σ H s := ⟨I.ok.unwish, I.os, I.bare, I.base, I.loc, I.cell, I.free, I.freeC, I.pin, I.hok, I.len⟩
theorem SP.unwish {D : Ends} {f : Flow} {s' : Shared} (h : SP (X.wish E) pins D f s') : SP X pins D f s' := by
  cases f with
  | next => obtain ⟨σ', H', I, q⟩ := h; exact ⟨σ', H', I.unwish, q⟩
  | brk => obtain ⟨σ', H', I, q⟩ := h; exact ⟨σ', H', I.unwish, q⟩
  | cont => obtain ⟨σ', H', I, q⟩ := h; exact ⟨σ', H', I.unwish, q⟩
  | ret u => obtain ⟨v, σ', H', I, r, q⟩ := h; exact ⟨v, σ', H', I.unwish, r, q⟩
theorem PE.nox {e : Expr} {t : TE} (h : PE X.nox e t) : PE X e t := fun pins s σ H Q I hw =>
  wpAny_mono (h pins s σ H Q (I.wish _) hw) (fun _ _ ⟨v, H', I', r, q⟩ => ⟨v, H', I'.unwish, r, q⟩) fun _ _ z => False.elim z
theorem PT.nox {e : Expr} {t : TT} (h : PT X.nox e t) : PT X e t := fun pins s σ H Q I hw =>
  wpAny_mono (h pins s σ H Q (I.wish _) hw) (fun _ _ ⟨H', I', q⟩ => ⟨H', I'.unwish, q⟩) fun _ _ z => False.elim z
theorem PSs.nox {st : List Stmt} {t : TS} (h : PSs X.nox st t) : PSs X st t := fun pins s σ H D I hw =>
  wpAny_mono (h pins s σ H D (I.wish _) hw) (fun _ _ q => q.unwish) fun _ _ z => False.elim z
end

/-! ### blocks and small statements -/
section
variable {X : Cx} {st : Stmt} {rest : List Stmt} {t u : TS} {e : Expr} {te : TE} {pos : Pos}
def tNext : TS := fun D σ H => D.nx σ H
def tSeq (t u : TS) : TS := fun D σ H => t { D with nx := u D } σ H
theorem pss_nil : PSs X [] tNext := fun _ _ σ H _ I h => wpAny_execs_nil ⟨σ, H, I, h⟩
theorem pss_cons (h1 : PS X st t) (h2 : PSs X rest u) : PSs X (st :: rest) (tSeq t u) := by
  intro pins s σ H D I h
  refine wpAny_execs_cons (thn (h1 pins s σ H { D with nx := u D } I h) fun f s1 q => ?_)
  cases f with
  | next =>
    obtain ⟨σ', H', I', q⟩ := q
    exact h2 pins s1 σ' H' D I' q
  | ret v => exact q
  | brk => exact q
  | cont => exact q
theorem pss_one (h1 : PS X st t) : PSs X [st] t := by
  intro pins s σ H D I h
  refine wpAny_execs_cons (thn (h1 pins s σ H D I h) fun f s1 q => ?_)
  cases f with
  | next => exact wpAny_execs_nil q
  | ret v => exact q
  | brk => exact q
  | cont => exact q
def tBreak : TS := fun D σ H => D.bk σ H
def tCont : TS := fun D σ H => D.ct σ H
/-- in a def's body nothing is shown -/
theorem Inv.quiet {pins : List (Addr × Obj)} {σ : St} {H : Hp} {s : Shared} (I : Inv X pins σ H s) : interactive X.env = false := by simp [interactive, I.ok.kind]
/-- an expression whose value is dropped -/
def tDrop (te : TE) : TS := fun D σ H => te σ H fun _ H1 => D.nx σ H1
theorem ps_expr (he : PE X e te) (hs : swapsWith e none pos.line X.env = pure false := by rfl) : PS X (.Expr e pos) (tDrop te) := by
  intro pins s σ H D I h
  exact wpAny_Expr_any (thn (he pins s σ H _ I h) fun v s1 ⟨x, H1, I1, r1, q1⟩ => ⟨σ, H1, I1, q1⟩) I.quiet hs
def tRet (te : TE) : TS := fun D σ H => te σ H D.rt
theorem ps_ret (he : PE X e te) : PS X (.Return (some e) pos) (tRet te) := by
  intro pins s σ H D I h
  exact wpAny_Return_some (thn (he pins s σ H _ I h) fun v s1 ⟨x, H1, I1, r1, q1⟩ => ⟨x, σ, H1, I1, r1, q1⟩)
def tRetN : TS := fun D _ H => D.rt .non H
def tIfS (c : TT) (t u : TS) : TS := fun D σ H => c σ H fun b H1 => if b = true then t D σ H1 else u D σ H1
theorem ps_if {c : Expr} {a b : List Stmt} {tc : TT} (hc : PT X c tc) (ha : PSs X a t) (hb : PSs X b u) : PS X (.If c a b pos) (tIfS tc t u) := by
  intro pins s σ H D I h
  refine wpAny_If (thn (hc pins s σ H _ I h) fun d s1 ⟨H1, I1, q1⟩ => ?_)
  cases d with
  | true => exact ha pins s1 σ H1 D I1 q1
  | false => exact hb pins s1 σ H1 D I1 q1
/-- code that the proof never comes to -/
def tNever : TS := fun _ _ _ => False
end

/-! ### targets -/
abbrev TG := V → St → Hp → (St → Hp → Prop) → Prop
abbrev TGs := List V → St → Hp → (St → Hp → Prop) → Prop
def PG (X : Cx) (target : Expr) (t : TG) : Prop :=
  ∀ (pins : List (Addr × Obj)) (s : Shared) (σ : St) (H : Hp) (v : V) (u : Value) (Q : St → Hp → Prop), Inv X pins σ H s → RelV v u → t v σ H Q →
    wpAny (model X.prog X.w) X.A (assign target X.env u) (fun _ s' => ∃ σ' H', Inv X pins σ' H' s' ∧ Q σ' H') X.xe s
/-- several targets, one after another -/
def PGs (X : Cx) (ts : List Expr) (t : TGs) : Prop :=
  ∀ (pins : List (Addr × Obj)) (s : Shared) (σ : St) (H : Hp) (vs : List V) (us : List Value) (Q : St → Hp → Prop), Inv X pins σ H s → Vals vs us → t vs σ H Q →
    wpAny (model X.prog X.w) X.A (assignInOrder ((assignEach ts X.env).map (·.2)) us) (fun _ s' => ∃ σ' H', Inv X pins σ' H' s' ∧ Q σ' H') X.xe s
/-- o[i] = v, by values -/
abbrev TSet := V → V → V → Hp → (Hp → Prop) → Prop
def PSet (X : Cx) (t : TSet) : Prop :=
  ∀ (pins : List (Addr × Obj)) (s : Shared) (σ : St) (H : Hp) (o i v : V) (ov iv u : Value) (Q : Hp → Prop), Inv X pins σ H s → RelV o ov → RelV i iv → RelV v u → t o i v H Q →
    wpAny (model X.prog X.w) X.A (setItem ov iv u) (fun _ s' => ∃ H', Inv X pins σ H' s' ∧ Q H') X.xe s
/-- a op= b, by values -/
abbrev TIp := V → V → Hp → VK → Prop
def PIp (X : Cx) (op : Operator) (t : TIp) : Prop :=
  ∀ (pins : List (Addr × Obj)) (s : Shared) (σ : St) (H : Hp) (x y : V) (v u : Value) (Q : VK), Inv X pins σ H s → RelV x v → RelV y u → t x y H Q →
    wpAny (model X.prog X.w) X.A (inplaceOp op v u) (EP X pins σ Q) X.xe s
section
variable {X : Cx} {pos : Pos}
def gName (i : Nat) : TG := fun v σ H Q => Q (σ.set i (some v)) H
theorem pg_name {i : Nat} {x : Str} (hN : X.N.Nodup) (hi : X.N[i]? = some x) (hx : Loc X.env.scope x) (hf : X.fn x = true ∨ X.env.scope.names.lookup x = some .local := by first | exact .inl rfl | exact .inr rfl | assumption) : PG X (.Name x pos) (gName i) := by
  intro pins s σ H v u Q I r h
  exact wpAny_assign_Name (store_ok I hN hi hx r (fun s' I' => ⟨_, H, I', h⟩) hf)
def gNil : TGs := fun vs σ H Q => vs = [] ∧ Q σ H
def gCons (t : TG) (u : TGs) : TGs := fun vs σ H Q => ∃ v r, vs = v :: r ∧ t v σ H fun σ' H' => u r σ' H' Q
/-- (a, b, ..) = a tuple of that length -/
def gTup (K : PySem.W.Frag) (n : Nat) (t : TGs) : TG := fun v σ H Q => ∃ a xs, v = .ref a ∧ SqT K H a xs ∧ xs.length = n ∧ t xs σ H Q
/-- o[i] = .. -/
def gSub (to ti : TE) (t : TSet) : TG := fun v σ H Q => to σ H fun o H1 => ti σ H1 fun i H2 => t o i v H2 fun H3 => Q σ H3
/-- target = value -/
def tAsg (te : TE) (g : TG) : TS := fun D σ H => te σ H fun x H1 => g x σ H1 D.nx
/-- name = value -/
theorem ps_set {i : Nat} {x : Str} {e : Expr} {te : TE} {pos' : Pos} (hN : X.N.Nodup) (hi : X.N[i]? = some x) (hx : Loc X.env.scope x) (he : PE X e te) (hs : swapsWith e (some (.Name x pos')) pos.line X.env = pure false := by rfl) (hf : X.fn x = true ∨ X.env.scope.names.lookup x = some .local := by first | exact .inl rfl | exact .inr rfl | assumption) :
    PS X (.Assign [.Name x pos'] e pos) (tAsg te (gName i)) := by
  intro pins s σ H D I h
  refine wpAny_Assign_Name (thn (he pins s σ H _ I h) fun v s1 ⟨y, H1, I1, r1, q1⟩ => ?_) hs
  exact store_ok I1 hN hi hx r1 (fun s2 I2 => ⟨_, H1, I2, q1⟩) hf
/-- a, b = x, y with plain local names: stored from the right; the pair itself is not tracked (the opening rows as in PyProof/Rows/TupAssign.lean:23) -/
def tPar (i j : Nat) (ta : TA) : TS := fun D σ H => ta σ H fun vs H1 => ∃ v w, vs = [v, w] ∧ D.nx ((σ.set i (some v)).set j (some w)) H1
/-- name op= e -/
def tAug (i : Nat) (te : TE) (ti : TIp) : TS := fun D σ H => ∃ x, σ[i]? = some (some x) ∧ te σ H fun y H1 => ti x y H1 fun z H2 => D.nx (σ.set i (some z)) H2
/-- o[i] op= e -/
def tAugS (to ti te : TE) (tget : V → V → Hp → VK → Prop) (tip : TIp) (tset : TSet) : TS := fun D σ H => to σ H fun o H1 => ti σ H1 fun i H2 => tget o i H2 fun x H3 => te σ H3 fun y H4 => tip x y H4 fun z H5 => tset o i z H5 fun H6 => D.nx σ H6
/-- o[i], by values -/
def PGet (X : Cx) (t : V → V → Hp → VK → Prop) : Prop :=
  ∀ (pins : List (Addr × Obj)) (s : Shared) (σ : St) (H : Hp) (o i : V) (ov iv : Value) (Q : VK), Inv X pins σ H s → RelV o ov → RelV i iv → t o i H Q →
    wpAny (model X.prog X.w) X.A (getItem ov iv) (EP X pins σ Q) X.xe s
/-- ints -/
def ipI (f : Int → Int → Int) : TIp := fun x y H Q => ∃ i j, x = .int i ∧ y = .int j ∧ Q (.int (f i j)) H
end

/-! ### while -/
section
variable {X : Cx} {pos : Pos}
/-- the invariant W with its measure -/
def tWhile (c : TT) (tb : TS) : TS := fun D σ H => ∃ W : Nat → St → Hp → Prop, (∃ m, W m σ H) ∧ ∀ m σ H, W m σ H →
  c σ H fun b H1 => if b = true then ∃ N : St → Hp → Prop, (∀ σ' H', N σ' H' → ∃ m', m' < m ∧ W m' σ' H') ∧ tb { D with nx := N, ct := N, bk := D.nx } σ H1 else D.nx σ H1
end

/-! ### what a loop or a comprehension walks -/
/-- at turn i: it yields x (the heap may grow), or it stops -/
structure It where
  go : Nat → Hp → Prop
  yld : Nat → Hp → V → Hp → Prop
  stop : Nat → Hp → Prop
/-- the iterator's own objects may turn: they are not the frame's, not pinned, younger than the entry (or a comprehension's own) -/
def FpOk (X : Cx) (pins : List (Addr × Obj)) (H : Hp) (b : Addr) : Prop :=
  H b = none ∧ b ≠ X.env.locals ∧ b ∉ X.fs ∧ (b ∈ X.ex ∨ X.s₀.heap.objs.size ≤ b) ∧ (∀ x c, X.env.cells.lookup x = some c → c ≠ b) ∧ ∀ p ∈ X.pn ++ pins, p.1 ≠ b
theorem Inv.fpOk {X : Cx} {pins : List (Addr × Obj)} {σ : St} {H H' : Hp} {s : Shared} {b : Addr} (I : Inv X pins σ H s) (hb : s.heap.objs.size ≤ b) (hn : H' b = none) : FpOk X pins H' b := by
  refine ⟨hn, Nat.ne_of_gt (Nat.lt_of_lt_of_le I.lt hb), I.nofs hb, .inr (Nat.le_trans I.sz hb), fun x c e z => ?_, fun p hp z => ?_⟩
  · obtain ⟨v, q⟩ := I.cell x c e
    exact absurd (Nat.lt_of_lt_of_le q.lt (by rw [z]; exact hb)) (Nat.lt_irrefl _)
  · exact absurd (Nat.lt_of_lt_of_le (Heap.lt_size (I.pin p hp).1) (by rw [z]; exact hb)) (Nat.lt_irrefl _)
structure Turn (P : Program) (w : World) (K : PySem.W.Frag) (tg : Expr) (J : It) (fp : List Addr) (it : Addr) (tn : Nat → Heap → Prop) : Prop where
  mem : it ∈ fp
  obj : ∀ i h, tn i h → ∀ b ∈ fp, ∃ o, h.get? b = some o ∧ ∀ v, o.data ≠ .cell v
  keep : ∀ i h h', tn i h → (∀ b ∈ fp, ∀ o, h.get? b = some o → h'.get? b = some o) → tn i h'
  item : ∀ (X : Cx), X.prog = P → X.w = w → X.K = K → X.calm = true → ∀ (i : Nat) (pins : List (Addr × Obj)) (s : Shared) (σ : St) (H : Hp) (E : Value → Shared → Prop), Inv X pins σ H s → (∀ b ∈ fp, FpOk X pins H b) → tn i s.heap → J.go i H →
    wpAny (model P w) X.A (pyNext (.ref it)) (fun r s1 => ∃ u, r = some u ∧
      wpAny (model P w) X.A (letOwnedTupleGo tg (.ref it) u) (fun _ s2 => ∃ x H', Inv X pins σ H' s2 ∧ RelV x u ∧ J.yld i H x H' ∧ tn (i + 1) s2.heap ∧ ∀ b ∈ fp, H' b = none) E s1) E s
  done : ∀ (X : Cx), X.prog = P → X.w = w → X.K = K → X.calm = true → ∀ (i : Nat) (pins : List (Addr × Obj)) (s : Shared) (σ : St) (H : Hp) (E : Value → Shared → Prop), Inv X pins σ H s → (∀ b ∈ fp, FpOk X pins H b) → tn i s.heap → J.stop i H →
    wpAny (model P w) X.A (pyNext (.ref it)) (fun r s1 => r = none ∧ Inv X pins σ H s1) E s
  self : ∀ (A : Around) (i : Nat) (s : Shared) (Q : Value → Shared → Prop) (E : Value → Shared → Prop), tn i s.heap → Q (.ref it) s → wpAny (model P w) A (pyIter (.ref it)) Q E s
abbrev TI := St → Hp → (It → Hp → Prop) → Prop
/-- an iterator has come -/
def PIE (X : Cx) (pins : List (Addr × Obj)) (σ : St) (tg : Expr) (R : It → Hp → Prop) (itv : Value) (s2 : Shared) : Prop :=
  ∃ (it : Addr) (fp : List Addr) (tn : Nat → Heap → Prop) (J : It) (H' : Hp), itv = .ref it ∧ Inv X pins σ H' s2 ∧ Turn X.prog X.w X.K tg J fp it tn ∧ tn 0 s2.heap ∧ (∀ b ∈ fp, FpOk X pins H' b) ∧ R J H'
def PI (X : Cx) (tg iter : Expr) (wi : TI) : Prop :=
  ∀ (pins : List (Addr × Obj)) (s : Shared) (σ : St) (H : Hp) (R : It → Hp → Prop), Inv X pins σ H s → wi σ H R →
    wpAny (model X.prog X.w) X.A (eval iter X.env) (fun v s1 => wpAny (model X.prog X.w) X.A (pyIter v) (PIE X pins σ tg R) X.xe s1) X.xe s

/-- the step ahead of the store is nothing for an iterator that keeps no tuple -/
theorem go_of {M : Model} {A : Around} {E : Value → Shared → Prop} {s : Shared} {tg : Expr} {it : Addr} {u : Value} {o : Obj} {n : String} {vs : Array Value} {Q : Unit → Shared → Prop} (ho : s.heap.get? it = some o) (hc : o.cls = .type n) (hd : o.data = .fields vs)
    (hn : ["enumerate", "zip", "dict_itemiterator", "dict_reverseitemiterator", "odict_iterator", "itertools.zip_longest", "itertools.pairwise"].contains n = false) (hQ : Q () s) : wpAny M A (letOwnedTupleGo tg (.ref it) u) Q E s := by
  unfold letOwnedTupleGo
  cases tg <;> first
    | exact wpAny_pure hQ
    | (cases u <;> first
        | exact wpAny_pure hQ
        | (refine wpAny_bind (wpAny_load ho ?_)
           rw [hc, hd]
           show wpAny M A (if (["enumerate", "zip", "dict_itemiterator", "dict_reverseitemiterator", "odict_iterator", "itertools.zip_longest", "itertools.pairwise"].contains n && vs[0]? == some (rawInt _)) = true then _ else _) Q E s
           rw [if_neg (by intro h; rw [hn, Bool.false_and] at h; cases h)]
           exact wpAny_pure hQ))

/-- the list at a, as it stands at each turn (a loop may append to it) -/
def Itl (K : PySem.W.Frag) (a : Addr) : It :=
  ⟨fun i H => ∃ xs x, SqL K H a xs ∧ xs[i]? = some x, fun i H x H' => H' = H ∧ ∀ xs, SqL K H a xs → xs[i]? = some x, fun i H => ∃ xs, SqL K H a xs ∧ xs.length ≤ i⟩
def Itt (K : PySem.W.Frag) (a : Addr) : It :=
  ⟨fun i H => ∃ xs x, SqT K H a xs ∧ xs[i]? = some x, fun i H x H' => H' = H ∧ ∀ xs, SqT K H a xs → xs[i]? = some x, fun i H => ∃ xs, SqT K H a xs ∧ xs.length ≤ i⟩
/-- lo, lo + 1, .. (n of them) -/
def Itr (lo : Int) (n : Nat) : It := ⟨fun i _ => i < n, fun i H x H' => H' = H ∧ x = .int (lo + i), fun i _ => n ≤ i⟩
theorem turn_list {P : Program} {w : World} {K : PySem.W.Frag} {tg : Expr} (a it : Addr) : Turn P w K tg (Itl K a) [it] it (fun i h => h.IsListIter it a i) where
  mem := by simp
  obj := fun i h st b hb => by
    have e : b = it := by simpa using hb
    subst e
    obtain ⟨o, e, c, d⟩ := st
    exact ⟨o, e, fun v z => by rw [d] at z; cases z⟩
  keep := fun i h h' st k => st.at fun o e => k it (by simp) o e
  item := by
    intro X hP hw hK hc i pins s σ H E I hf st hg
    subst hP hw hK
    obtain ⟨xs, x, hq, hx⟩ := hg
    obtain ⟨its, rv, p, hz⟩ := I.list hq
    obtain ⟨u, hu, ru⟩ := rv.get hx
    obtain ⟨f0, f1, f2, f3, f4, f5⟩ := hf it (by simp)
    refine wpAny_pyNext_list_item st p.isList (x := u) (by simpa using hu) fun h' st' sb => ?_
    have I1 : Inv X pins σ H { s with heap := h' } := I.turned (t' := s.toks) (fun b o hb e => (sb.2 b hb).trans e) f0 f1 f3 f4 f5
    obtain ⟨o, e, c, d⟩ := id st'
    exact ⟨u, rfl, go_of (s := { s with heap := h' }) e c d (by decide) ⟨x, H, I1, ru, ⟨rfl, fun ys hy => by rw [I.list_inj hy hq]; exact hx⟩, st', fun b hb => (hf b hb).1⟩⟩
  done := by
    intro X hP hw hK hc i pins s σ H E I hf st hg
    subst hP hw hK
    obtain ⟨xs, hq, hx⟩ := hg
    obtain ⟨its, rv, p, hz⟩ := I.list hq
    obtain ⟨f0, f1, f2, f3, f4, f5⟩ := hf it (by simp)
    have hl := rv.length
    exact wpAny_pyNext_list_end (I.ok.hd hc) st p.isList (by simp; omega) fun h' eb => ⟨rfl, I.turned (t' := s.toks) (fun b o hb e => eb b o hb e) f0 f1 f3 f4 f5⟩
  self := fun _ _ _ _ _ st h => wpAny_pyIter_listiter st h
theorem turn_tuple {P : Program} {w : World} {K : PySem.W.Frag} {tg : Expr} (a it : Addr) : Turn P w K tg (Itt K a) [it] it (fun i h => h.IsTupleIter it a i) where
  mem := by simp
  obj := fun i h st b hb => by
    have e : b = it := by simpa using hb
    subst e
    obtain ⟨o, e, c, d⟩ := st
    exact ⟨o, e, fun v z => by rw [d] at z; cases z⟩
  keep := fun i h h' st k => st.at fun o e => k it (by simp) o e
  item := by
    intro X hP hw hK hc i pins s σ H E I hf st hg
    subst hP hw hK
    obtain ⟨xs, x, hq, hx⟩ := hg
    obtain ⟨its, rv, p, hz⟩ := I.tuple hq
    obtain ⟨u, hu, ru⟩ := rv.get hx
    obtain ⟨f0, f1, f2, f3, f4, f5⟩ := hf it (by simp)
    refine wpAny_pyNext_tuple_item st (show s.heap.IsTuple a its.toArray from p) (x := u) (by simpa using hu) fun h' st' sb => ?_
    have I1 : Inv X pins σ H { s with heap := h' } := I.turned (t' := s.toks) (fun b o hb e => (sb.2 b hb).trans e) f0 f1 f3 f4 f5
    obtain ⟨o, e, c, d⟩ := id st'
    exact ⟨u, rfl, go_of (s := { s with heap := h' }) e c d (by decide) ⟨x, H, I1, ru, ⟨rfl, fun ys hy => by rw [I.tuple_inj hy hq]; exact hx⟩, st', fun b hb => (hf b hb).1⟩⟩
  done := by
    intro X hP hw hK hc i pins s σ H E I hf st hg
    subst hP hw hK
    obtain ⟨xs, hq, hx⟩ := hg
    obtain ⟨its, rv, p, hz⟩ := I.tuple hq
    obtain ⟨f0, f1, f2, f3, f4, f5⟩ := hf it (by simp)
    have hl := rv.length
    exact wpAny_pyNext_tuple_end (I.ok.hd hc) st (show s.heap.IsTuple a its.toArray from p) (by simp; omega) fun h' eb => ⟨rfl, I.turned (t' := s.toks) (fun b o hb e => eb b o hb e) f0 f1 f3 f4 f5⟩
  self := fun _ _ _ _ _ st h => wpAny_pyIter_tupleiter st h
theorem turn_range {P : Program} {w : World} {K : PySem.W.Frag} {tg : Expr} (it : Addr) (lo : Int) (n : Nat) : Turn P w K tg (Itr lo n) [it] it (fun i h => IsRangeIter h it (lo + (i : Nat) * 1) ((n : Int) - (i : Nat)) 1) where
  mem := by simp
  obj := fun i h st b hb => by
    have e : b = it := by simpa using hb
    subst e
    exact ⟨_, st, fun v z => by
      have z' : Data.fields _ = Data.cell v := z
      cases z'⟩
  keep := fun i h h' st k => k it (by simp) _ st
  item := by
    intro X hP hw hK hc i pins s σ H E I hf st hg
    subst hP hw hK
    obtain ⟨f0, f1, f2, f3, f4, f5⟩ := hf it (by simp)
    have W := Walks.range (prog := X.prog) (w := X.w) (I.ok.hd hc) it lo 1 n
    refine W.item i s _ _ hg st fun v h' tk hv st' kk => ?_
    obtain ⟨t, rfl⟩ := hv
    have I1 : Inv X pins σ H { s with heap := h', toks := tk } := I.turned (fun b o hb e => kk b o (by simpa using hb) e) f0 f1 f3 f4 f5
    refine ⟨_, rfl, go_of (s := { s with heap := h', toks := tk }) (n := "range_iterator") st' rfl rfl (by decide) ⟨.int (lo + i), H, I1, ⟨t, ?_⟩, ⟨rfl, rfl⟩, st', fun b hb => (hf b hb).1⟩⟩
    rw [Int.mul_one]
  done := by
    intro X hP hw hK hc i pins s σ H E I hf st hg
    subst hP hw hK
    obtain ⟨f0, f1, f2, f3, f4, f5⟩ := hf it (by simp)
    exact wpAny_pyNext_range_end (I.ok.hd hc) st (by have : n ≤ i := hg; omega) fun h' eb => ⟨rfl, I.turned (t' := s.toks) (fun b o hb e => eb b o hb e) f0 f1 f3 f4 f5⟩
  self := fun _ _ _ _ _ st h => wpAny_pyIter_rangeiter st h
end L2

namespace L2
open PySem PySem.Spec PyProof.Rows
section
variable {X : Cx} {tg : Expr}
def iList (K : PySem.W.Frag) (tl : TE) : TI := fun σ H R => tl σ H fun x H1 => ∃ a, x = .ref a ∧ (∃ xs, SqL K H1 a xs) ∧ R (Itl K a) H1
def iTup (K : PySem.W.Frag) (tl : TE) : TI := fun σ H R => tl σ H fun x H1 => ∃ a, x = .ref a ∧ (∃ xs, SqT K H1 a xs) ∧ R (Itt K a) H1
theorem pi_list {l : Expr} {tl : TE} (hl : PE X l tl) : PI X tg l (iList X.K tl) := by
  intro pins s σ H R I h
  refine thn (hl pins s σ H _ I h) fun v s1 ⟨x, H1, I1, r1, q1⟩ => ?_
  obtain ⟨a, e, ⟨xs, hq⟩, q⟩ := q1
  subst e
  cases r1
  obtain ⟨its, rv, p, hz⟩ := I1.list hq
  refine wpAny_pyIter_list p.isList ?_
  refine ⟨s1.heap.objs.size, [s1.heap.objs.size], _, _, H1, rfl, I1.kept (t' := s1.toks) fun b o e => Heap.get?_push_of_some _ e, turn_list a _, ⟨_, Heap.get?_push_size _ rfl, rfl, rfl⟩, fun b hb => ?_, q⟩
  have e : b = s1.heap.objs.size := by simpa using hb
  subst e
  exact I1.fpOk (Nat.le_refl _) (I1.hok.fresh (Nat.le_refl _))
theorem pi_tup {l : Expr} {tl : TE} (hl : PE X l tl) : PI X tg l (iTup X.K tl) := by
  intro pins s σ H R I h
  refine thn (hl pins s σ H _ I h) fun v s1 ⟨x, H1, I1, r1, q1⟩ => ?_
  obtain ⟨a, e, ⟨xs, hq⟩, q⟩ := q1
  subst e
  cases r1
  obtain ⟨its, rv, p, hz⟩ := I1.tuple hq
  refine wpAny_pyIter_tuple (show s1.heap.IsTuple a its.toArray from p) ?_
  refine ⟨s1.heap.objs.size, [s1.heap.objs.size], _, _, H1, rfl, I1.kept (t' := s1.toks) fun b o e => Heap.get?_push_of_some _ e, turn_tuple a _, ⟨_, Heap.get?_push_size _ rfl, rfl, rfl⟩, fun b hb => ?_, q⟩
  have e : b = s1.heap.objs.size := by simpa using hb
  subst e
  exact I1.fpOk (Nat.le_refl _) (I1.hok.fresh (Nat.le_refl _))
/-- a range object just made, walked -/
theorem range_it {pins : List (Addr × Obj)} {σ : St} {H : Hp} {s : Shared} {R : It → Hp → Prop} {E : Value → Shared → Prop} {lo hi : Int} {t u v : Tok} {tk : Nat} (I : Inv X pins σ H s) (h1 : -(2 ^ 62) ≤ lo) (h2 : lo < 2 ^ 62) (h3 : -(2 ^ 62) ≤ hi) (h4 : hi < 2 ^ 62)
    (q : R (Itr lo (hi - lo).toNat) H) : wpAny (model X.prog X.w) X.A (pyIter (.ref s.heap.objs.size)) (PIE X pins σ tg R) E { s with heap := s.heap.push { cls := .type "range", data := .fields #[.int lo t, .int hi u, .int 1 v] }, toks := tk } := by
  refine wpAny_pyIter_range (IsRange.new ..) (small_one h1 h2 h3 h4) ?_
  have I1 : Inv X pins σ H { s with heap := s.heap.push { cls := .type "range", data := .fields #[.int lo t, .int hi u, .int 1 v] }, toks := tk } := I.kept fun b o e => Heap.get?_push_of_some _ e
  refine ⟨(s.heap.push { cls := .type "range", data := .fields #[.int lo t, .int hi u, .int 1 v] }).objs.size, [(s.heap.push { cls := .type "range", data := .fields #[.int lo t, .int hi u, .int 1 v] }).objs.size], _, _, H, rfl,
    I1.kept (t' := tk) fun b o e => Heap.get?_push_of_some _ e, turn_range _ lo (hi - lo).toNat, ?_, fun b hb => ?_, q⟩
  · have e1 : lo + ((0 : Nat) : Int) * 1 = lo := by simp
    have e2 : (((hi - lo).toNat : Nat) : Int) - ((0 : Nat) : Int) = Builtin.Range.rangeSize lo hi 1 := by rw [rangeSize_one]; split <;> omega
    show IsRangeIter _ _ (lo + ((0 : Nat) : Int) * 1) ((((hi - lo).toNat : Nat) : Int) - ((0 : Nat) : Int)) 1
    rw [e1, e2]
    exact Heap.get?_push_size _ rfl
  · have e : b = (s.heap.push { cls := .type "range", data := .fields #[.int lo t, .int hi u, .int 1 v] }).objs.size := by simpa using hb
    subst e
    exact I1.fpOk (Nat.le_refl _) (I1.hok.fresh (Nat.le_refl _))
def iRng1 (ta : TA) : TI := fun σ H R => ta σ H fun vs H1 => ∃ j : Int, vs = [.int j] ∧ -(2 ^ 62) ≤ j ∧ j < 2 ^ 62 ∧ R (Itr 0 j.toNat) H1
def iRng2 (ta : TA) : TI := fun σ H R => ta σ H fun vs H1 => ∃ i j : Int, vs = [.int i, .int j] ∧ (-(2 ^ 62) ≤ i ∧ i < 2 ^ 62 ∧ -(2 ^ 62) ≤ j ∧ j < 2 ^ 62) ∧ R (Itr i (j - i).toNat) H1
theorem pi_range1 {a : Expr} {ta : TA} {p pos : Pos} (hg : Gl X "range") (hm : X.mg "range" = none) (ha : PA X [a] ta) (hs : starEach [a] X.env = [(false, eval a X.env)] := by rfl) : PI X tg (.Call (.Name "range" p) [a] [] pos) (iRng1 ta) := by
  intro pins s σ H R I h
  refine Call_ (ld_blt I hg hm boot_range (PyProof.Rows.callWith_type1 (thn (ha pos pins s σ H _ I h) fun us s1 ⟨vs, H1, I1, r1, q1⟩ => ?_) hs rfl))
  obtain ⟨j, e, q1, q2, q⟩ := q1
  subst e
  cases r1 with
  | cons r rr =>
    cases rr
    obtain ⟨t, rfl⟩ := r
    exact call_range_1 (range_it I1 (by omega) (by omega) q1 q2 (by simpa using q))
theorem pi_range2 {a b : Expr} {ta : TA} {p pos : Pos} (hg : Gl X "range") (hm : X.mg "range" = none) (ha : PA X [a, b] ta) (hs : starEach [a, b] X.env = [(false, eval a X.env), (false, eval b X.env)] := by rfl) (hs2 : starEach [b] X.env = [(false, eval b X.env)] := by rfl) :
    PI X tg (.Call (.Name "range" p) [a, b] [] pos) (iRng2 ta) := by
  intro pins s σ H R I h
  refine Call_ (ld_blt I hg hm boot_range (PyProof.Rows.callWith_type1 (thn (ha pos pins s σ H _ I h) fun us s1 ⟨vs, H1, I1, r1, q1⟩ => ?_) (by rw [hs, hs2]) (by rw [hs2]; rfl)))
  obtain ⟨i, j, e, ⟨q1, q2, q3, q4⟩, q⟩ := q1
  subst e
  cases r1 with
  | cons r rr =>
    cases rr with
    | cons r' rr =>
      cases rr
      obtain ⟨t, rfl⟩ := r
      obtain ⟨t', rfl⟩ := r'
      exact call_range_2 (range_it I1 q1 q2 q3 q4 q)

/-! ### for -/
/-- W: the invariant by the turn and a measure; N: what the body is to reach -/
def tFor (wi : TI) (g : TG) (tb : TS) : TS := fun D σ H => wi σ H fun J H1 => ∃ W : Nat → Nat → St → Hp → Prop, (∃ m, W 0 m σ H1) ∧ ∀ i m σ H, W i m σ H →
  (J.stop i H ∧ D.nx σ H) ∨ (J.go i H ∧ ∃ N : St → Hp → Prop, (∀ σ' H', N σ' H' → ∃ m', m' < m ∧ W (i + 1) m' σ' H') ∧ ∀ x H', J.yld i H x H' → g x σ H' fun σ2 H2 => tb { D with nx := N, ct := N, bk := D.nx } σ2 H2)
/-- the records at fp as they stand -/
def pinsAt (fp : List Addr) (h : Heap) : List (Addr × Obj) := fp.filterMap fun b => (h.get? b).map fun o => (b, o)
theorem mem_pinsAt {fp : List Addr} {h : Heap} {b : Addr} {o : Obj} (hb : b ∈ fp) (e : h.get? b = some o) : (b, o) ∈ pinsAt fp h := List.mem_filterMap.mpr ⟨b, hb, by rw [e]; rfl⟩
theorem of_pinsAt {fp : List Addr} {h : Heap} {p : Addr × Obj} (hp : p ∈ pinsAt fp h) : p.1 ∈ fp ∧ h.get? p.1 = some p.2 := by
  obtain ⟨b, hb, e⟩ := List.mem_filterMap.mp hp
  cases q : h.get? b with
  | none => rw [q] at e; cases e
  | some o =>
    rw [q] at e
    have e' : (b, o) = p := Option.some.inj e
    subst e'
    exact ⟨hb, q⟩
theorem Inv.pinned {pins : List (Addr × Obj)} {σ : St} {H : Hp} {s : Shared} {fp : List Addr} (I : Inv X pins σ H s) (hf : ∀ b ∈ fp, FpOk X pins H b) (ho : ∀ b ∈ fp, ∃ o, s.heap.get? b = some o ∧ ∀ v, o.data ≠ .cell v) : Inv X (pins ++ pinsAt fp s.heap) σ H s :=
  I.pins_of fun p hp => (List.mem_append.mp hp).elim (fun z => I.pin p (List.mem_append_right _ z)) fun z => by
    obtain ⟨hb, e⟩ := of_pinsAt z
    obtain ⟨f0, f1, f2, _⟩ := hf p.1 hb
    obtain ⟨o, e', d⟩ := ho p.1 hb
    rw [e] at e'; cases e'
    exact ⟨e, f0, f1, f2, d⟩
theorem Inv.unpinned {pins pl : List (Addr × Obj)} {σ : St} {H : Hp} {s : Shared} (I : Inv X (pins ++ pl) σ H s) : Inv X pins σ H s := I.pins_of fun p hp => I.pin p (List.mem_append_right _ (List.mem_append_left _ hp))
theorem ps_for {iter : Expr} {body : List Stmt} {wi : TI} {g : TG} {tb : TS} {pos : Pos} (hp : PassesOwn (model X.prog X.w) X.A X.env X.xe) (hc : X.calm = true) (hi : PI X tg iter wi) (hg : PG X tg g) (hb : PSs X body tb)
    (hs : ∀ x, foldedSetIterable iter X.env x = pure x := by intro _; rfl) : PS X (.For tg iter body [] pos) (tFor wi g tb) := by
  intro pins s σ H D I h
  refine wpAny_For (thn (hi pins s σ H _ I h) fun v s1 h1 => thn h1 fun itv s2 h2 => ?_) hs
  obtain ⟨it, fp, tn, J, H2, e, I2, T, st2, f2, W, ⟨m0, w0⟩, turn⟩ := h2
  subst e
  -- what stays true of the iterator's objects through the loop
  have stat : ∀ {H' : Hp}, (∀ b ∈ fp, H' b = none) → ∀ b ∈ fp, FpOk X pins H' b := fun hn b hb => ⟨hn b hb, (f2 b hb).2⟩
  refine codeAny_forLoop_any (fun n s' => ∃ i σ' H', Inv X pins σ' H' s' ∧ tn i s'.heap ∧ (∀ b ∈ fp, H' b = none) ∧ W i n σ' H') ?_ m0 ⟨0, σ, H2, I2, st2, fun b hb => (f2 b hb).1, w0⟩
  rintro n s3 ⟨i, σ3, H3, I3, st3, fr3, w3⟩
  rcases turn i n σ3 H3 w3 with ⟨stop, qn⟩ | ⟨go, N, hN, step⟩
  · refine wpAny_passesOwn hp (thn (T.done X rfl rfl rfl hc i pins s3 σ3 H3 X.xe I3 (stat fr3) st3 stop) fun r s4 ⟨hr, I4⟩ => ?_)
    subst hr
    exact wpAny_execs_nil ⟨σ3, H3, I4, qn⟩
  · refine wpAny_passesOwn hp (thn (T.item X rfl rfl rfl hc i pins s3 σ3 H3 X.xe I3 (stat fr3) st3 go) fun r s4 ⟨u, hr, h4⟩ => ?_)
    subst hr
    refine wpAny_passesOwn hp (thn h4 fun _ s5 ⟨x, H5, I5, r5, y5, st5, fr5⟩ => ?_)
    have I5' := I5.pinned (stat fr5) (T.obj _ _ st5)
    refine wpAny_passesOwn hp (thn (hg _ s5 σ3 H5 x u _ I5' r5 (step x H5 y5)) fun _ s6 ⟨σ6, H6, I6, q6⟩ => ?_)
    refine wpAny_passesOwn hp (thn (hb _ s6 σ6 H6 _ I6 q6) fun f s7 q7 => ?_)
    have again : ∀ {σ7 : St} {H7 : Hp}, Inv X (pins ++ pinsAt fp s5.heap) σ7 H7 s7 → N σ7 H7 → ∃ m, m < n ∧ ∃ i σ' H', Inv X pins σ' H' s7 ∧ tn i s7.heap ∧ (∀ b ∈ fp, H' b = none) ∧ W i m σ' H' := fun {σ7 H7} I7 n7 => by
      obtain ⟨m', hm, w7⟩ := hN σ7 H7 n7
      refine ⟨m', hm, i + 1, σ7, H7, I7.unpinned, T.keep _ _ _ st5 fun b hb o e => (I7.pin (b, o) (List.mem_append_right _ (List.mem_append_right _ (mem_pinsAt hb e)))).1, fun b hb => ?_, w7⟩
      obtain ⟨o, e, d⟩ := T.obj _ _ st5 b hb
      exact (I7.pin (b, o) (List.mem_append_right _ (List.mem_append_right _ (mem_pinsAt hb e)))).2.1
    cases f with
    | next => obtain ⟨σ7, H7, I7, n7⟩ := q7; exact again I7 n7
    | cont => obtain ⟨σ7, H7, I7, n7⟩ := q7; exact again I7 n7
    | brk => obtain ⟨σ7, H7, I7, q7⟩ := q7; exact ⟨σ7, H7, I7.unpinned, q7⟩
    | ret v => obtain ⟨x7, σ7, H7, I7, r7, q7⟩ := q7; exact ⟨x7, σ7, H7, I7.unpinned, r7, q7⟩
end

/-! ### the forms one uses -/
theorem for_tup {K : PySem.W.Frag} {a : Addr} {xs : List V} {g : TG} {tb : TS} {D : Ends} {σ : St} {H : Hp} (Pv : Nat → St → Hp → Prop) (h0 : Pv 0 σ H) (hl : ∀ i σ H, i ≤ xs.length → Pv i σ H → SqT K H a xs)
    (hs : ∀ i x σ H, xs[i]? = some x → Pv i σ H → g x σ H fun σ2 H2 => tb { D with nx := Pv (i + 1), ct := Pv (i + 1), bk := D.nx } σ2 H2) (hd : ∀ σ H, Pv xs.length σ H → D.nx σ H) :
    ∃ W : Nat → Nat → St → Hp → Prop, (∃ m, W 0 m σ H) ∧ ∀ i m σ H, W i m σ H →
      ((Itt K a).stop i H ∧ D.nx σ H) ∨ ((Itt K a).go i H ∧ ∃ N : St → Hp → Prop, (∀ σ' H', N σ' H' → ∃ m', m' < m ∧ W (i + 1) m' σ' H') ∧ ∀ x H', (Itt K a).yld i H x H' → g x σ H' fun σ2 H2 => tb { D with nx := N, ct := N, bk := D.nx } σ2 H2) := by
  refine ⟨fun i m σ H => m = xs.length - i ∧ i ≤ xs.length ∧ Pv i σ H, ⟨xs.length, by simp, Nat.zero_le _, h0⟩, ?_⟩
  rintro i m σ H ⟨rfl, hi, p⟩
  have q := hl i σ H hi p
  by_cases hlt : i < xs.length
  · refine .inr ⟨⟨xs, xs[i], q, by simp [hlt]⟩, Pv (i + 1), fun σ' H' p' => ⟨xs.length - (i + 1), by omega, rfl, hlt, p'⟩, fun x H' y => ?_⟩
    obtain ⟨e, y⟩ := y
    subst e
    exact hs i x σ _ (y xs q) p
  · have e : i = xs.length := by omega
    subst e
    exact .inl ⟨⟨xs, q, Nat.le_refl _⟩, hd σ H p⟩
theorem for_range {lo : Int} {n : Nat} {g : TG} {tb : TS} {D : Ends} {σ : St} {H : Hp} (Pv : Nat → St → Hp → Prop) (h0 : Pv 0 σ H)
    (hs : ∀ i σ H, i < n → Pv i σ H → g (.int (lo + i)) σ H fun σ2 H2 => tb { D with nx := Pv (i + 1), ct := Pv (i + 1), bk := D.nx } σ2 H2) (hd : ∀ σ H, Pv n σ H → D.nx σ H) :
    ∃ W : Nat → Nat → St → Hp → Prop, (∃ m, W 0 m σ H) ∧ ∀ i m σ H, W i m σ H →
      ((Itr lo n).stop i H ∧ D.nx σ H) ∨ ((Itr lo n).go i H ∧ ∃ N : St → Hp → Prop, (∀ σ' H', N σ' H' → ∃ m', m' < m ∧ W (i + 1) m' σ' H') ∧ ∀ x H', (Itr lo n).yld i H x H' → g x σ H' fun σ2 H2 => tb { D with nx := N, ct := N, bk := D.nx } σ2 H2) := by
  refine ⟨fun i m σ H => m = n - i ∧ i ≤ n ∧ Pv i σ H, ⟨n, by simp, Nat.zero_le _, h0⟩, ?_⟩
  rintro i m σ H ⟨rfl, hi, p⟩
  by_cases hlt : i < n
  · refine .inr ⟨hlt, Pv (i + 1), fun σ' H' p' => ⟨n - (i + 1), by omega, rfl, hlt, p'⟩, fun x H' y => ?_⟩
    obtain ⟨e, y⟩ := y
    subst e y
    exact hs i σ _ hlt p
  · have e : i = n := by omega
    subst e
    exact .inl ⟨Nat.le_refl _, hd σ H p⟩
end L2

namespace L2
open PySem PySem.Spec PyProof.Rows

abbrev R2 := V → V → Hp → VK → Prop
/-- a two-place operation on values: f is binaryOp op, inplaceOp op or compareOp op -/
def OpR (X : Cx) (f : Value → Value → Sem Value) (r : R2) : Prop :=
  ∀ (pins : List (Addr × Obj)) (s : Shared) (σ : St) (H : Hp) (x y : V) (v u : Value) (Q : VK), Inv X pins σ H s → RelV x v → RelV y u → r x y H Q →
    wpAny (model X.prog X.w) X.A (f v u) (EP X pins σ Q) X.xe s
/-- a one-place operation -/
def UnR (X : Cx) (f : Value → Sem Value) (r : V → Hp → VK → Prop) : Prop :=
  ∀ (pins : List (Addr × Obj)) (s : Shared) (σ : St) (H : Hp) (x : V) (v : Value) (Q : VK), Inv X pins σ H s → RelV x v → r x H Q →
    wpAny (model X.prog X.w) X.A (f v) (EP X pins σ Q) X.xe s
/-- a call of a value that is known (a builtin, a type) with values -/
def CallR (X : Cx) (f : Value) (r : List V → Hp → VK → Prop) : Prop :=
  ∀ (pins : List (Addr × Obj)) (s : Shared) (σ : St) (H : Hp) (xs : List V) (us : List Value) (Q : VK), Inv X pins σ H s → Vals xs us → r xs H Q →
    wpAny (model X.prog X.w) X.A (call f us) (EP X pins σ Q) X.xe s
/-- a value's truth -/
def TruR (X : Cx) (r : V → Hp → (Bool → Hp → Prop) → Prop) : Prop :=
  ∀ (pins : List (Addr × Obj)) (s : Shared) (σ : St) (H : Hp) (x : V) (v : Value) (Q : Bool → Hp → Prop), Inv X pins σ H s → RelV x v → r x H Q →
    wpAny (model X.prog X.w) X.A (truthy v) (TP X pins σ Q) X.xe s

def tOp (r : R2) (ta tb : TE) : TE := fun σ H Q => ta σ H fun x H1 => tb σ H1 fun y H2 => r x y H2 Q
def tUn (r : V → Hp → VK → Prop) (ta : TE) : TE := fun σ H Q => ta σ H fun x H1 => r x H1 Q
/-- ints in, under C, and a value out -/
def rI (C : Int → Int → Prop) (g : Int → Int → V) : R2 := fun x y H Q => ∃ i j, x = .int i ∧ y = .int j ∧ C i j ∧ Q (g i j) H
def rI0 (g : Int → Int → V) : R2 := fun x y H Q => ∃ i j, x = .int i ∧ y = .int j ∧ Q (g i j) H
def rU (g : Int → V) : V → Hp → VK → Prop := fun x H Q => ∃ i, x = .int i ∧ Q (g i) H

section
variable {X : Cx} {a b c : Expr} {ta tb tc : TE} {pos : Pos}

theorem binT (ha : PE X a ta) (hb : PE X b tb) {pins : List (Addr × Obj)} {s : Shared} {σ : St} {H : Hp} {R : V → V → Hp → Prop} (I : Inv X pins σ H s)
    (h : ta σ H fun x H1 => tb σ H1 fun y H2 => R x y H2) {Q : Value → Shared → Prop} {f : Value → Value → Sem Value}
    (hf : ∀ v u s2 x y H2, Inv X pins σ H2 s2 → RelV x v → RelV y u → R x y H2 → wpAny (model X.prog X.w) X.A (f v u) Q X.xe s2) :
    wpAny (model X.prog X.w) X.A (eval a X.env) (fun v s₁ => wpAny (model X.prog X.w) X.A (eval b X.env) (fun u s₂ => wpAny (model X.prog X.w) X.A (f v u) Q X.xe s₂) X.xe s₁) X.xe s := by
  refine thn (ha pins s σ H _ I h) fun v s1 ⟨x, H1, I1, r1, q1⟩ => ?_
  refine thn (hb pins s1 σ H1 _ I1 q1) fun u s2 ⟨y, H2, I2, r2, q2⟩ => ?_
  exact hf v u s2 x y H2 I2 r1 r2 q2

theorem pe_op {op : Operator} {r : R2} (ho : OpR X (binaryOp op) r) (ha : PE X a ta) (hb : PE X b tb) : PE X (.BinOp a op b pos) (tOp r ta tb) := by
  intro pins s σ H Q I h
  exact wpAny_BinOp (binT ha hb I h fun v u s2 x y H2 I2 rx ry q => ho pins s2 σ H2 x y v u Q I2 rx ry q)
theorem pe_un {op : UnaryOp} {r : V → Hp → VK → Prop} (ho : UnR X (unaryOp op) r) (ha : PE X a ta) : PE X (.UnaryOp op a pos) (tUn r ta) := by
  intro pins s σ H Q I h
  exact UnaryOp_ (thn (ha pins s σ H _ I h) fun v s1 ⟨x, H1, I1, r1, q1⟩ => ho pins s1 σ H1 x v Q I1 r1 q1)
/-! ### ints -/
theorem opI {f : Value → Value → Sem Value} {C : Int → Int → Prop} {g : Int → Int → Int}
    (rule : ∀ (i j : Int) (t u : Tok) (s : Shared) (Q : Value → Shared → Prop) (E : Value → Shared → Prop), C i j → Q (.int (g i j) s.toks) { s with toks := s.toks + 1 } → wpAny (model X.prog X.w) X.A (f (.int i t) (.int j u)) Q E s) :
    OpR X f (rI C fun i j => .int (g i j)) := by
  intro pins s σ H x y v u Q I rx ry h
  obtain ⟨i, j, rfl, rfl, hc, q⟩ := h
  obtain ⟨t, rfl⟩ := rx
  obtain ⟨t', rfl⟩ := ry
  exact rule i j t t' s _ _ hc ⟨.int (g i j), H, I.tok _, ⟨_, rfl⟩, q⟩
theorem opI0 {f : Value → Value → Sem Value} {g : Int → Int → Int}
    (rule : ∀ (i j : Int) (t u : Tok) (s : Shared) (Q : Value → Shared → Prop) (E : Value → Shared → Prop), Q (.int (g i j) s.toks) { s with toks := s.toks + 1 } → wpAny (model X.prog X.w) X.A (f (.int i t) (.int j u)) Q E s) :
    OpR X f (rI0 fun i j => .int (g i j)) := by
  intro pins s σ H x y v u Q I rx ry h
  obtain ⟨i, j, rfl, rfl, q⟩ := h
  obtain ⟨t, rfl⟩ := rx
  obtain ⟨t', rfl⟩ := ry
  exact rule i j t t' s _ _ ⟨.int (g i j), H, I.tok _, ⟨_, rfl⟩, q⟩
theorem opB0 {f : Value → Value → Sem Value} {g : Int → Int → Bool}
    (rule : ∀ (i j : Int) (t u : Tok) (s : Shared) (Q : Value → Shared → Prop) (E : Value → Shared → Prop), Q (.bool (g i j)) s → wpAny (model X.prog X.w) X.A (f (.int i t) (.int j u)) Q E s) :
    OpR X f (rI0 fun i j => .bl (g i j)) := by
  intro pins s σ H x y v u Q I rx ry h
  obtain ⟨i, j, rfl, rfl, q⟩ := h
  obtain ⟨t, rfl⟩ := rx
  obtain ⟨t', rfl⟩ := ry
  exact rule i j t t' s _ _ ⟨.bl (g i j), H, I, rfl, q⟩

def CDiv (i j : Int) : Prop := 0 < j ∧ j < 1073741824
def CDivN (i j : Int) : Prop := j ≠ 0 ∧ j.natAbs < 1073741824
def CPow (i j : Int) : Prop := 0 ≤ j ∧ j ≤ 1000000 ∧ i.natAbs < 2 ^ 64
def CMul (i j : Int) : Prop := (-(2 ^ 64) < i ∧ i < 2 ^ 64) ∨ (-(2 ^ 64) < j ∧ j < 2 ^ 64)
theorem CMul.ok {i j : Int} (h : CMul i j) : IntMulOk i j := by
  rcases h with ⟨h1, h2⟩ | ⟨h1, h2⟩
  · exact .of_left (intBits_le_64 h1 h2)
  · exact .of_right (intBits_le_64 h1 h2)
theorem op_add : OpR X (binaryOp .Add) (rI0 fun i j => .int (i + j)) := opI0 fun _ _ _ _ _ _ _ q => add_int q
theorem op_sub : OpR X (binaryOp .Sub) (rI0 fun i j => .int (i - j)) := opI0 fun _ _ _ _ _ _ _ q => sub_int q
theorem op_mul : OpR X (binaryOp .Mult) (rI CMul fun i j => .int (i * j)) := opI fun _ _ _ _ _ _ _ hc q => mul_int q hc.ok
/-- // by a positive divisor -/
theorem op_fdiv : OpR X (binaryOp .FloorDiv) (rI CDiv fun i j => .int (i / j)) := opI fun i j _ _ _ _ _ hc q => by
  have h1 : (0 : Int) < j := hc.1
  have h2 : j < 1073741824 := hc.2
  exact floordiv_int (by omega) (by rw [Int.fdiv_eq_ediv_of_nonneg i (by omega)]; exact q) (.inl (PyProof.noPylong_small (by omega)))
/-- % by a positive divisor of any size -/
theorem op_mod : OpR X (binaryOp .Mod) (rI (fun _ j => 0 < j) fun i j => .int (i % j)) := opI fun i j _ _ _ _ _ hc q => by
  have h1 : (0 : Int) < j := hc
  exact mod_int' (by omega) (by rw [Int.fmod_eq_emod_of_nonneg i (by omega)]; exact q)
theorem op_pow : OpR X (binaryOp .Pow) (rI CPow fun i j => .int (i ^ j.toNat)) := opI fun _ _ _ _ _ _ _ hc q => pow_int_small hc.1 hc.2.1 hc.2.2 q
theorem unI {f : Value → Sem Value} {g : Int → Int}
    (rule : ∀ (i : Int) (t : Tok) (s : Shared) (Q : Value → Shared → Prop) (E : Value → Shared → Prop), Q (.int (g i) s.toks) { s with toks := s.toks + 1 } → wpAny (model X.prog X.w) X.A (f (.int i t)) Q E s) :
    UnR X f (rU fun i => .int (g i)) := by
  intro pins s σ H x v Q I rx h
  obtain ⟨i, rfl, q⟩ := h
  obtain ⟨t, rfl⟩ := rx
  exact rule i t s _ _ ⟨.int (g i), H, I.tok _, ⟨_, rfl⟩, q⟩
theorem un_neg : UnR X (unaryOp .USub) (rU fun i => .int (-i)) := unI fun _ _ _ _ _ q => neg_int q
/-! ### bools among ints: n += (a < b) -/
end

/-! ### comparisons -/
/-- the scalars that == tells apart as data does -/
def scal : V → V → Bool
  | .non, .non => true | .non, .int _ => true | .int _, .non => true | .non, .bl _ => true | .bl _, .non => true | .non, .str _ => true | .str _, .non => true
  | .int _, .int _ => true | .bl _, .bl _ => true | .str _, .str _ => true | .byt _, .byt _ => true
  | .int _, .str _ => true | .str _, .int _ => true | .bl _, .str _ => true | .str _, .bl _ => true
  | _, _ => false
def rEq : R2 := fun x y H Q => scal x y = true ∧ Q (.bl (decide (x = y))) H
def rNe : R2 := fun x y H Q => scal x y = true ∧ Q (.bl (!decide (x = y))) H

section
variable {X : Cx} {a b c : Expr} {ta tb tc : TE} {pos : Pos}
theorem fin_bl {pins : List (Addr × Obj)} {σ : St} {H : Hp} {s : Shared} {Q : VK} {k k' : Bool} (I : Inv X pins σ H s) (q : Q (.bl k) H) (e : k = k') : EP X pins σ Q (.bool k') s := by
  subst e
  exact ⟨.bl k, H, I, rfl, q⟩
theorem op_lt : OpR X (compareOp .Lt) (rI0 fun i j => .bl (decide (i < j))) := opB0 fun _ _ _ _ _ _ _ q => lt_int q
theorem op_le : OpR X (compareOp .LtE) (rI0 fun i j => .bl (decide (i ≤ j))) := opB0 fun _ _ _ _ _ _ _ q => le_int q
theorem op_gt : OpR X (compareOp .Gt) (rI0 fun i j => .bl (decide (j < i))) := opB0 fun _ _ _ _ _ _ _ q => gt_int q
theorem op_ge : OpR X (compareOp .GtE) (rI0 fun i j => .bl (decide (j ≤ i))) := opB0 fun _ _ _ _ _ _ _ q => ge_int q
theorem op_lt_str : OpR X (compareOp .Lt) (fun x y H Q => ∃ i j, x = .str i ∧ y = .str j ∧ Q (.bl (decide (i.cps.toList < j.cps.toList))) H) := by
  intro pins s σ H x y v u Q I rx ry h
  obtain ⟨i, j, rfl, rfl, q⟩ := h
  obtain ⟨t, rfl⟩ := rx
  obtain ⟨t', rfl⟩ := ry
  exact lt_str (fin_bl I q rfl)
/-- the one string within the other -/
theorem op_in_str : OpR X (compareOp .In) (fun x y H Q => ∃ i j, x = .str i ∧ y = .str j ∧ Q (.bl (!(Builtin.Str.occurrences j i 0 j.length 1).isEmpty)) H) := by
  intro pins s σ H x y v u Q I rx ry h
  obtain ⟨i, j, rfl, rfl, q⟩ := h
  obtain ⟨t, rfl⟩ := rx
  obtain ⟨t', rfl⟩ := ry
  exact in_str (fin_bl I q rfl)

/-- is None, is not None: the right side a value none -/
theorem op_isN : OpR X (compareOp .Is) (fun x y H Q => y = .non ∧ Q (.bl (decide (x = .non))) H) := by
  intro pins s σ H x y v u Q I rx ry h
  obtain ⟨rfl, q⟩ := h
  cases ry
  refine is_none_gen (fin_bl I q ?_)
  cases x <;> first
    | (cases rx; rfl)
    | (obtain ⟨t, rfl⟩ := rx; rfl)
theorem op_notin_str : OpR X (compareOp .NotIn) (fun x y H Q => ∃ i j, x = .str i ∧ y = .str j ∧ Q (.bl (!(!(Builtin.Str.occurrences j i 0 j.length 1).isEmpty))) H) := by
  intro pins s σ H x y v u Q I rx ry h
  obtain ⟨i, j, rfl, rfl, q⟩ := h
  obtain ⟨t, rfl⟩ := rx
  obtain ⟨t', rfl⟩ := ry
  exact notIn_str (fin_bl I q rfl)
/-- is, is not of two objects that are tracked lists or instances -/
def isObj : HO → Bool
  | .lst _ => true
  | .ins _ _ _ => true
  | _ => false
/-- two rules for one operation: by cases -/
theorem OpR.or {f : Value → Value → Sem Value} {r r' : R2} (h : OpR X f r) (h' : OpR X f r') : OpR X f (fun x y H Q => r x y H Q ∨ r' x y H Q) := by
  intro pins s σ H x y v u Q I rx ry q
  rcases q with q | q
  · exact h pins s σ H x y v u Q I rx ry q
  · exact h' pins s σ H x y v u Q I rx ry q

theorem nomark (b : Expr) {op : CmpOp} (h : op ≠ .In := by decide) (h2 : op ≠ .NotIn := by decide) : behindInMarks op b = false := by
  have e1 : (op == CmpOp.In) = false := by cases op <;> first | rfl | exact absurd rfl h
  have e2 : (op == CmpOp.NotIn) = false := by cases op <;> first | rfl | exact absurd rfl h2
  cases b <;> simp [behindInMarks, e1, e2]
/-- a comparison as a value; hm: nomark b, or (for in, not in) by with_unfolding_all rfl -/
theorem pe_cmpR {op : CmpOp} {r : R2} (ho : OpR X (compareOp op) r) (ha : PE X a ta) (hb : PE X b tb) (hm : behindInMarks op b = false) : PE X (.Compare a [op] [b] pos) (tOp r ta tb) := by
  intro pins s σ H Q I h
  exact wpAny_Compare1 (binT ha hb I h fun v u s2 x y H2 I2 rx ry q => ho pins s2 σ H2 x y v u Q I2 rx ry q) hm
/-- a reading of a value as a test -/
def tTest (t : TE) : TT := fun σ H Q => t σ H fun x H' => ∃ k, x = .bl k ∧ Q k H'
theorem pt_cmpR {op : CmpOp} {r : R2} (ho : OpR X (compareOp op) r) (ha : PE X a ta) (hb : PE X b tb) (hm : behindInMarks op b = false) : PT X (.Compare a [op] [b] pos) (tTest (tOp r ta tb)) := by
  intro pins s σ H Q I h
  refine wpAny_isTrue_Compare1 (thn (ha pins s σ H _ I h) fun v s1 ⟨x, H1, I1, r1, q1⟩ => thn (hb pins s1 σ H1 _ I1 q1) fun u s2 ⟨y, H2, I2, r2, q2⟩ =>
    thn (ho pins s2 σ H2 x y v u _ I2 r1 r2 q2) fun c s3 ⟨z, H3, I3, r3, k, e, q3⟩ => ?_) hm
  subst e
  cases r3
  exact wpAny_truthy_bool ⟨H3, I3, q3⟩
/-- a op1 b op2 c -/
def tChain (r r' : R2) (ta tb tc : TE) : TE := fun σ H Q => ta σ H fun x H1 => tb σ H1 fun y H2 => r x y H2 fun z H3 => ∃ k, z = .bl k ∧
  (if k = true then tc σ H3 fun w' H4 => r' y w' H4 Q else Q (.bl false) H3)
theorem pt_chain {op op' : CmpOp} {r r' : R2} (ho : OpR X (compareOp op) r) (ho' : OpR X (compareOp op') r') (ha : PE X a ta) (hb : PE X b tb) (hc : PE X c tc)
    (hm : lastMarks [op, op'] [b, c] = false := by with_unfolding_all rfl) : PT X (.Compare a [op, op'] [b, c] pos) (tTest (tChain r r' ta tb tc)) := by
  intro pins s σ H Q I h
  refine isTrue_chain (thn (ha pins s σ H _ I h) fun v s1 ⟨x, H1, I1, r1, q1⟩ => test_link (thn (hb pins s1 σ H1 _ I1 q1) fun u s2 ⟨y, H2, I2, r2, q2⟩ =>
    thn (ho pins s2 σ H2 x y v u _ I2 r1 r2 q2) fun d s3 ⟨z, H3, I3, r3, k, e, q3⟩ => ?_)) hm
  subst e
  cases r3
  refine wpAny_truthy_bool ?_
  cases k with
  | false =>
    obtain ⟨k', e', q'⟩ := q3
    cases e'
    exact ite_ff ⟨H3, I3, q'⟩
  | true =>
    refine ite_tt (test_last (thn (hc pins s3 σ H3 _ I3 q3) fun w' s4 ⟨z', H4, I4, r4, q4⟩ => thn (ho' pins s4 σ H4 y z' u w' _ I4 r2 r4 q4) fun d' s5 ⟨z2, H5, I5, r5, k2, e2, q5⟩ => ?_))
    subst e2
    cases r5
    exact wpAny_truthy_bool ⟨H5, I5, q5⟩

/-! ### truth -/
/-- a value's truth by the abstract heap -/
def TruV (K : PySem.W.Frag) (x : V) (H : Hp) (k : Bool) : Prop :=
  match x with
  | .non => k = false
  | .bl b => k = b
  | .int i => k = (i != 0)
  | .str y => y.length ≤ sizeLine ∧ k = ((y.length : Int) != 0)
  | .byt y => y.size ≤ sizeLine ∧ k = ((y.size : Int) != 0)
  | .ref p => (∃ xs, SqL K H p xs ∧ k = !xs.isEmpty) ∨ (∃ xs, SqT K H p xs ∧ k = !xs.isEmpty) ∨ ∃ kvs, H p = some (.dK kvs) ∧ k = !kvs.isEmpty
  | _ => False
theorem line63 : (sizeLine : Nat) < 2 ^ 63 := by rw [sizeLine_eq]; decide
/-! ### strs and bytes -/
theorem op_add_str : OpR X (binaryOp .Add) (fun x y H Q => ∃ i j, x = .str i ∧ y = .str j ∧ i.length + j.length ≤ sizeLine ∧ Q (.str (i ++ j)) H) := by
  intro pins s σ H x y v u Q I rx ry h
  obtain ⟨i, j, rfl, rfl, hz, q⟩ := h
  obtain ⟨t, rfl⟩ := rx
  obtain ⟨t', rfl⟩ := ry
  exact add_str (fun t' tk => ⟨.str (i ++ j), H, I.tok _, ⟨_, rfl⟩, q⟩) hz
def PlainIxT (b : Expr) : Prop := ∀ o i, subscripted b false o i = operate [o, i] (getItem o i)
/-! ### scalar builtins, by CallR -/
theorem vals1 {x : V} {us : List Value} (r : Vals [x] us) : ∃ u, us = [u] ∧ RelV x u := by
  cases r with
  | cons r1 r2 => cases r2; exact ⟨_, rfl, r1⟩
theorem vals2 {x y : V} {us : List Value} (r : Vals [x, y] us) : ∃ u w', us = [u, w'] ∧ RelV x u ∧ RelV y w' := by
  cases r with
  | cons r1 r2 =>
    cases r2 with
    | cons r3 r4 => cases r4; exact ⟨_, _, rfl, r1, r3⟩
theorem call_max2 (hc : X.calm = true) : CallR X (.builtin "max") (fun xs H Q => ∃ i j, xs = [.int i, .int j] ∧ Q (.int (if j > i then j else i)) H) := by
  intro pins s σ H xs us Q I r h
  obtain ⟨i, j, rfl, q⟩ := h
  obtain ⟨u, w', rfl, ⟨t, rfl⟩, ⟨t', rfl⟩⟩ := vals2 r
  refine max_two_ints (I.ok.hd hc) fun h' tk k => ⟨_, H, I.kept k, ?_, q⟩
  by_cases hj : j > i
  · rw [if_pos hj, if_pos hj]; exact ⟨_, rfl⟩
  · rw [if_neg hj, if_neg hj]; exact ⟨_, rfl⟩
theorem call_min2 (hc : X.calm = true) : CallR X (.builtin "min") (fun xs H Q => ∃ i j, xs = [.int i, .int j] ∧ Q (.int (if j < i then j else i)) H) := by
  intro pins s σ H xs us Q I r h
  obtain ⟨i, j, rfl, q⟩ := h
  obtain ⟨u, w', rfl, ⟨t, rfl⟩, ⟨t', rfl⟩⟩ := vals2 r
  refine min_two_ints (I.ok.hd hc) fun h' tk k => ⟨_, H, I.kept k, ?_, q⟩
  by_cases hj : j < i
  · rw [if_pos hj, if_pos hj]; exact ⟨_, rfl⟩
  · rw [if_neg hj, if_neg hj]; exact ⟨_, rfl⟩
theorem call_str_int : CallR X (.type "str") (fun xs H Q => ∃ i, xs = [.int i] ∧ i.natAbs.log2 < 1920 ∧ Q (.str (toString i)) H) := by
  intro pins s σ H xs us Q I r h
  obtain ⟨i, rfl, hz, q⟩ := h
  obtain ⟨u, rfl, t, rfl⟩ := vals1 r
  exact PySem.P.str_of_int hz ⟨.str _, H, I.tok _, ⟨_, rfl⟩, q⟩
/-- len of a str, a bytes, a list, a tuple -/
def LenV (K : PySem.W.Frag) (x : V) (H : Hp) (n : Nat) : Prop :=
  match x with
  | .str y => y.length ≤ sizeLine ∧ n = y.length
  | .byt y => y.size ≤ sizeLine ∧ n = y.size
  | .ref p => (∃ xs, SqL K H p xs ∧ n = xs.length) ∨ ∃ xs, SqT K H p xs ∧ n = xs.length
  | _ => False
theorem call_len : CallR X (.builtin "len") (fun xs H Q => ∃ x n, xs = [x] ∧ LenV X.K x H n ∧ Q (.int n) H) := by
  intro pins s σ H xs us Q I r h
  obtain ⟨x, n, rfl, e, q⟩ := h
  obtain ⟨u, rfl, rx⟩ := vals1 r
  have hl := line63
  have hs : sizeLine = 16777216 := sizeLine_eq
  cases x with
  | str y =>
    obtain ⟨t, rfl⟩ := rx
    obtain ⟨hy, e'⟩ : y.length ≤ sizeLine ∧ n = y.length := e
    subst e'
    exact len_str (by omega) ⟨.int _, H, I.tok _, ⟨_, rfl⟩, q⟩
  | byt y =>
    obtain ⟨t, rfl⟩ := rx
    obtain ⟨hy, e'⟩ : y.size ≤ sizeLine ∧ n = y.size := e
    subst e'
    exact PySem.W.len_bytes (by omega) ⟨.int _, H, I.tok _, ⟨_, rfl⟩, q⟩
  | ref p =>
    cases rx
    have e' : (∃ xs, SqL X.K H p xs ∧ n = xs.length) ∨ ∃ xs, SqT X.K H p xs ∧ n = xs.length := e
    rcases e' with ⟨xs, hx, e'⟩ | ⟨xs, hx, e'⟩
    · subst e'
      obtain ⟨its, r', pl, hz⟩ := I.list hx
      have hlen := r'.length
      exact Calls.call_len_list pl.isList (by simp only [List.size_toArray]; omega) ⟨.int xs.length, H, I.tok _, ⟨_, by simp only [List.size_toArray]; rw [hlen]⟩, q⟩
    · subst e'
      obtain ⟨its, r', pl, hz⟩ := I.tuple hx
      have hlen := r'.length
      exact len_tuple pl (by simp only [List.size_toArray]; omega) ⟨.int xs.length, H, I.tok _, ⟨_, by simp only [List.size_toArray]; rw [hlen]⟩, q⟩
  | _ => exact (show False from e).elim
end
end L2

namespace L2
open PySem PySem.Spec PyProof.Rows

/-! ### an instance, its attributes a map -/
structure ObjM (h : Heap) (x dx C : Addr) (mA : Str → Option Value) : Prop where
  obj : h.get? x = some (PySem.W.instObj C dx)
  ns : h.Ns1 dx mA
  ne : dx ≠ x

theorem lookIn_ns {h : Heap} {dx : Addr} {mA : Str → Option Value} (n : h.Ns1 dx mA) : ∃ od, h.get? dx = some od ∧ ∀ name, PySem.W.lookIn name od = some (mA name) := by
  obtain ⟨o, es, ep, ho, hd, hk, _, hm⟩ := n
  refine ⟨o, ho, fun name => ?_⟩
  have e := hm name
  unfold nsFind findBy at e
  rw [← Array.find?_toList] at e
  unfold PySem.W.lookIn
  rw [hd]
  dsimp only
  split
  · rename_i y q
    rw [q] at e
    exact congrArg some e
  · rename_i q
    rw [q] at e
    have a : es.toList.any (·.refKey) = false := by
      rw [List.any_eq_false]
      intro y hy
      obtain ⟨z, t, hkey⟩ := hk y (Array.mem_toList_iff.mp hy)
      simp [DictEntry.refKey, hkey]
    have a' : ¬ es.toList.any (·.refKey) = true := by rw [a]; exact Bool.false_ne_true
    rw [if_neg a']
    exact congrArg some e

theorem ObjM.look {h : Heap} {x dx C : Addr} {mA : Str → Option Value} (I : ObjM h x dx C mA) : ∃ od, PySem.W.InstAt h x (PySem.W.instObj C dx) C (some od) ∧ ∀ name, PySem.W.lookIn name od = some (mA name) :=
  let ⟨od, ho, hl⟩ := lookIn_ns I.ns
  ⟨od, ⟨I.obj, rfl, rfl, ho⟩, hl⟩

section
variable {prog : Program} {w : World} {A : Around} {E : Value → Shared → Prop} {s : Shared} {K : PySem.W.Frag} {x dx C f : Addr} {mA : Str → Option Value} {name : Str} {v : Value}

end

/-! ### the attributes as a list of pairs -/
def putF (f : Str) (v : V) : List (Str × V) → List (Str × V)
  | [] => [(f, v)]
  | (g, x) :: r => if g = f then (g, v) :: r else (g, x) :: putF f v r
theorem RelO.some_of {v : V} {o : Option Value} (r : RelO (some v) o) : ∃ u, o = some u ∧ RelV v u := by
  cases o with
  | none => exact (show False from r).elim
  | some u => exact ⟨u, rfl, r⟩
theorem RelO.none_of {o : Option Value} (r : RelO none o) : o = none := by
  cases o with
  | none => rfl
  | some u => exact (show False from r).elim
theorem handed_of {v : V} {u : Value} (r : RelV v u) : PySem.W.handedIn u = true := by
  cases v with
  | non => cases (show u = Value.none from r); rfl
  | bl b => cases (show u = Value.bool b from r); rfl
  | int i => obtain ⟨t, e⟩ := (show ∃ t, u = Value.int i t from r); cases e; rfl
  | str x => obtain ⟨t, e⟩ := (show ∃ t, u = Value.str x t from r); cases e; rfl
  | byt b => obtain ⟨t, e⟩ := (show ∃ t, u = Value.bytes b t from r); cases e; rfl
  | flt b => obtain ⟨t, e⟩ := (show ∃ t, u = Value.float b t from r); cases e; rfl
  | ref a => cases (show u = Value.ref a from r); rfl
  | ty n => cases (show u = Value.type n from r); rfl

section
variable {P : Program} {w : World} {H H' : Hp} {h h' : Heap} {a C dx : Addr} {fs fs' : List (Str × V)}
theorem ins_get (hok : HOk P w H h) (e : H a = some (.ins C dx fs)) : ∃ mA, ObjM h a dx C mA ∧ (∀ f, RelO (fs.lookup f) (mA f)) ∧ PySem.Within mA (fs.map (·.1)) ∧ fs.length ≤ 1000 ∧ H dx = some (.own a) := by
  obtain ⟨d, z, ne, ob, mA, n, r, q⟩ := (show ObjOk P w H h a (.ins C dx fs) from hok a _ e)
  exact ⟨mA, ⟨ob, n, ne⟩, r, q, z, d⟩
end

/-! ### what of the text a class must have -/
structure Cls (K : PySem.W.Frag) (C : Addr) : Prop where
  pg : PySem.W.plainGet K C Str.empty = true
  hd : PySem.W.hasDictIn K C = true
  po : PySem.W.plainOver K C = true
  sa : PySem.W.findIn K (.ref C) "__setattr__" = some (some (.builtin "object.__setattr__"))
theorem Cls.get {K : PySem.W.Frag} {C : Addr} (c : Cls K C) (f : Str) : PySem.W.plainGet K C f = true := c.pg
/-- no class of it has the name -/
def NoAttr (K : PySem.W.Frag) (C : Addr) (f : Str) : Prop := PySem.W.findIn K (.ref C) f = some none
/-- a constant of the class -/
structure Con (K : PySem.W.Frag) (C : Addr) (f : Str) (v : V) (u : Value) : Prop where
  at_ : PySem.W.findIn K (.ref C) f = some (some u)
  rel : RelV v u
  get : PySem.W.specialIn K u "__get__" = some none
  cp : PySem.W.copiedNames.contains f = false
/-- a method: a plain def of the class or of one above it -/
structure Meth (K : PySem.W.Frag) (C : Addr) (m : Str) (f : Addr) : Prop where
  at_ : PySem.W.findIn K (.ref C) m = some (some (.ref f))
  fn : PySem.W.isFn K (.ref f) = true
  kp : PySem.W.keepIn K (.ref f) = true

section
variable {X : Cx} {pins : List (Addr × Obj)} {σ : St} {H : Hp} {s : Shared} {a C dx : Addr} {fs : List (Str × V)} {f : Str} {v : V} {A : Around} {E : Value → Shared → Prop}

/-- a new instance, tracked, without attributes -/
theorem Inv.made (I : Inv X pins σ H s) : Inv X pins σ (upd (upd H s.heap.objs.size (.own (s.heap.objs.size + 1))) (s.heap.objs.size + 1) (.ins C s.heap.objs.size []))
    { s with heap := (s.heap.push PySem.W.emptyDict).push (PySem.W.instObj C s.heap.objs.size) } := by
  have e1 : (s.heap.push PySem.W.emptyDict).get? s.heap.objs.size = some PySem.W.emptyDict := Heap.get?_push_size s.heap rfl
  have e2 : ((s.heap.push PySem.W.emptyDict).push (PySem.W.instObj C s.heap.objs.size)).get? (s.heap.objs.size + 1) = some (PySem.W.instObj C s.heap.objs.size) := by
    have := Heap.get?_push_size (s.heap.push PySem.W.emptyDict) (o := PySem.W.instObj C s.heap.objs.size) rfl
    rwa [Heap.size_push] at this
  have e3 : (s.heap.push PySem.W.emptyDict).Ns s.heap.objs.size (fun _ => none) := ⟨PySem.W.emptyDict, #[], _, e1, rfl, (fun e he => absurd he (by simp)), fun _ => rfl⟩
  have I1 := I.laid (a := s.heap.objs.size) (o := .own (s.heap.objs.size + 1)) (h' := s.heap.push PySem.W.emptyDict) (t' := s.toks) (fun b u q => Heap.get?_push_of_some _ q) (Nat.le_refl _) ⟨_, e1⟩
  refine I1.laid (a := s.heap.objs.size + 1) (o := .ins C s.heap.objs.size []) (t' := s.toks) (fun b u q => Heap.get?_push_of_some _ q) (Nat.le_of_eq (Heap.size_push _ _)) ?_
  have ne : s.heap.objs.size ≠ s.heap.objs.size + 1 := Nat.ne_of_lt (Nat.lt_succ_self _)
  refine ⟨by rw [upd_ne ne, upd_same], Nat.zero_le _, ne, e2, fun _ => none, (Heap.Ns1.of_empty e3).at fun o q => Heap.get?_push_of_some _ q, fun _ => True.intro, fun y hy => absurd rfl hy⟩

/-- e.f where nothing but the object is asked: through attributeBase (super) and the last hold -/
theorem attr_of {prog : Program} {w : World} {env : Env} {e : Expr} {f : Str} {pos : Pos} {s : Shared} {Q : Value → Shared → Prop} (hb : attributeBase e f env (eval e env) = eval e env)
    (h : wpAny (model prog w) A (eval e env) (fun o s₁ => wpAny (model prog w) A (getAttr o f true) Q E s₁) E s) : wpAny (model prog w) A (eval (.Attribute e f pos) env) Q E s :=
  Attribute_any_ h (by rw [arm_eval_Attribute, hb])
end

/-! ### readings and rules -/
/-- e.f, an attribute of the instance -/
def tFld (K : PySem.W.Frag) (ta : TE) (f : Str) : TE := fun σ H Q => ta σ H fun x H1 => ∃ a C dx fs v, x = .ref a ∧ H1 a = some (.ins C dx fs) ∧ Cls K C ∧ NoAttr K C f ∧ fs.lookup f = some v ∧ Q v H1
/-- e.f, a constant of the class -/
def tCon (K : PySem.W.Frag) (ta : TE) (f : Str) : TE := fun σ H Q => ta σ H fun x H1 => ∃ a C dx fs v u, x = .ref a ∧ H1 a = some (.ins C dx fs) ∧ Cls K C ∧ Con K C f v u ∧ fs.lookup f = none ∧ Q v H1
/-- e.f = value -/
def sFld (K : PySem.W.Frag) (ta tv : TE) (f : Str) : TS := fun D σ H => tv σ H fun y H1 => ta σ H1 fun x H2 => ∃ a C dx fs, x = .ref a ∧ H2 a = some (.ins C dx fs) ∧ Cls K C ∧ NoAttr K C f ∧ fs.length < 1000 ∧
  D.nx σ (upd H2 a (.ins C dx (putF f y fs)))
/-- an augmented operator on two values -/
def InOp (X : Cx) (op : Operator) (rd : V → V → Hp → VK → Prop) : Prop :=
  ∀ (pins : List (Addr × Obj)) (s : Shared) (σ : St) (H : Hp) (x y : V) (u v : Value) (Q : VK), Inv X pins σ H s → RelV x u → RelV y v → rd x y H Q → wpAny (model X.prog X.w) X.A (inplaceOp op u v) (EP X pins σ Q) X.xe s
/-- e.f op= value -/
def sFldAug (K : PySem.W.Frag) (ta tv : TE) (rd : V → V → Hp → VK → Prop) (f : Str) : TS := fun D σ H => ta σ H fun x H1 => ∃ a C dx fs v, x = .ref a ∧ H1 a = some (.ins C dx fs) ∧ Cls K C ∧ NoAttr K C f ∧ fs.lookup f = some v ∧
  tv σ H1 fun y H2 => rd v y H2 fun z H3 => ∃ dx' fs', H3 a = some (.ins C dx' fs') ∧ fs'.length < 1000 ∧ D.nx σ (upd H3 a (.ins C dx' (putF f z fs')))

section
variable {X : Cx} {o e value : Expr} {f : Str} {pos pos' tpos : Pos} {ta tv : TE}
def rAdd : V → V → Hp → VK → Prop := fun x y H Q => ∃ i j, x = .int i ∧ y = .int j ∧ Q (.int (i + j)) H
def rSub : V → V → Hp → VK → Prop := fun x y H Q => ∃ i j, x = .int i ∧ y = .int j ∧ Q (.int (i - j)) H
end

/-! ### isinstance -/
section
variable {X : Cx} {pins : List (Addr × Obj)} {σ : St} {H : Hp} {s : Shared} {A : Around} {E : Value → Shared → Prop} {Q : Value → Shared → Prop} {c : Value} {b : Bool}
/-- the type of a value, as the fragment's deciders take it; for an instance its class -/
inductive TyOf (K : PySem.W.Frag) (H : Hp) : V → Value → Prop where
  | non : TyOf K H .non (.type "NoneType")
  | bl (x : Bool) : TyOf K H (.bl x) (.type "bool")
  | int (i : Int) : TyOf K H (.int i) (.type "int")
  | str (x : Str) : TyOf K H (.str x) (.type "str")
  | flt (x : UInt64) : TyOf K H (.flt x) (.type "float")
  | lst {a : Addr} {xs : List V} (e : H a = some (.lst xs)) : TyOf K H (.ref a) (.type "list")
  | frz {a : Addr} {o : Obj} {xs : List V} (e : H a = some (.frz o (.lst xs))) : TyOf K H (.ref a) (.type "list")
  | tup {a : Addr} {xs : List V} (e : H a = some (.tup xs)) : TyOf K H (.ref a) (.type "tuple")
  | dK {a : Addr} {kvs : List (Key × V)} (e : H a = some (.dK kvs)) : TyOf K H (.ref a) (.type "dict")
  | dT {a : Addr} {kvs : List (List Key × V)} (e : H a = some (.dT kvs)) : TyOf K H (.ref a) (.type "dict")
  | ins {a C dx : Addr} {fs : List (Str × V)} (e : H a = some (.ins C dx fs)) (cl : Cls K C) (ha : PySem.W.findIn K (.ref C) "__class__" = some (some (.builtin "object.__class__")))
      (hn : PySem.W.specialIn K (.builtin "object.__class__") "__get__" = some (some (.builtin "getset_descriptor.__get__"))) (htk : PySem.W.takesIn K (.builtin "object.__class__") = some true)
      (hm : PySem.W.mroIn K C (.type "object") = some true) : TyOf K H (.ref a) (.ref C)
/-- isinstance(x, c) for one class c, a built-in or an own one: kitOne's answer -/
theorem isinst_ok {x : V} {u t : Value} (I : Inv X pins σ H s) (rx : RelV x u) (ty : TyOf X.K H x t) (e : PySem.W.kitOne X.K t c = some b) (h : ∀ tk, Q (.bool b) { s with toks := tk }) :
    wpAny (model X.prog X.w) A (call (.builtin "isinstance") [u, c]) Q E s := by
  cases ty with
  | non => cases (show u = Value.none from rx); exact PySem.W.kia_one PySem.W.kitx_none I.kIn True.intro e (fun z => nomatch z) h
  | bl y => cases (show u = Value.bool y from rx); exact PySem.W.kia_one PySem.W.kitx_bool I.kIn True.intro e (fun z => nomatch z) h
  | int i => obtain ⟨t, q⟩ := (show ∃ t, u = Value.int i t from rx); cases q; exact PySem.W.kia_one PySem.W.kitx_int I.kIn True.intro e (fun z => nomatch z) h
  | str y => obtain ⟨t, q⟩ := (show ∃ t, u = Value.str y t from rx); cases q; exact PySem.W.kia_one PySem.W.kitx_str I.kIn True.intro e (fun z => nomatch z) h
  | flt y => obtain ⟨t, q⟩ := (show ∃ t, u = Value.float y t from rx); cases q; exact PySem.W.kia_one PySem.W.kitx_float I.kIn True.intro e (fun z => nomatch z) h
  | @lst a xs ea =>
    cases (show u = Value.ref a from rx)
    obtain ⟨_, _, n, _, h1⟩ := (show ObjOk X.prog X.w H s.heap a (.lst xs) from I.hok a _ ea)
    exact PySem.W.kia_one PySem.W.kitx_list I.kIn ⟨_, h1, rfl⟩ e (fun z => nomatch z) h
  | @frz a ob xs ea =>
    cases (show u = Value.ref a from rx)
    obtain ⟨_, _, _, n, _, h1⟩ := (show ObjOk X.prog X.w H s.heap a (.frz ob (.lst xs)) from I.hok a _ ea)
    exact PySem.W.kia_one PySem.W.kitx_list I.kIn ⟨_, h1, rfl⟩ e (fun z => nomatch z) h
  | @tup a xs ea =>
    cases (show u = Value.ref a from rx)
    obtain ⟨_, _, _, p⟩ := (show ObjOk X.prog X.w H s.heap a (.tup xs) from I.hok a _ ea)
    obtain ⟨o, h1, h2, _⟩ := p
    exact PySem.W.kia_one PySem.W.kitx_tuple I.kIn ⟨o, h1, h2⟩ e (fun z => nomatch z) h
  | @dK a kvs ea =>
    cases (show u = Value.ref a from rx)
    obtain ⟨_, _, vs, _, p⟩ := (show ObjOk X.prog X.w H s.heap a (.dK kvs) from I.hok a _ ea)
    obtain ⟨o, es, ep, h1, h2, _⟩ := p
    exact PySem.W.kia_one PySem.W.kitx_dict I.kIn ⟨o, h1, h2.1⟩ e (fun z => nomatch z) h
  | @dT a kvs ea =>
    cases (show u = Value.ref a from rx)
    obtain ⟨_, _, xs, _, o, es, ep, h1, h2, _⟩ := (show ObjOk X.prog X.w H s.heap a (.dT kvs) from I.hok a _ ea)
    exact PySem.W.kia_one PySem.W.kitx_dict I.kIn ⟨o, h1, h2.1⟩ e (fun z => nomatch z) h
  | @ins a C dx fs ea cl ha hn htk hm =>
    cases (show u = Value.ref a from rx)
    obtain ⟨mA, O, _⟩ := ins_get I.hok ea
    obtain ⟨od, J, _⟩ := O.look
    exact PySem.W.kia_one (PySem.W.kitx_own (cl.get _) cl.hd ha hn htk hm) I.kIn J e (fun z => nomatch z) h
end
end L2

namespace L2
open PySem PySem.Spec PyProof.Rows

/-! ### room -/
structure Room (k : Nat) (A : Around) : Prop where
  hd : A.handled = none
  dp : A.depth + 3 * k + 5 < recursionLimit
  un : A.units + 16 * k + 200 < cLine
theorem Room.mono {j k : Nat} {A : Around} (r : Room k A) (h : j ≤ k) : Room j A := ⟨r.hd, by have := r.dp; omega, by have := r.un; omega⟩
theorem Room.deeper {k : Nat} {A : Around} (r : Room (k + 1) A) (env : Env) : Room k (A.deeper env) :=
  ⟨r.hd, by have := r.dp; show A.depth + 1 + 3 * k + 5 < _; omega, by have := r.un; show A.units + 3 + 16 * k + 200 < _; omega⟩
theorem Room.in1 {k : Nat} {A : Around} (r : Room (k + 1) A) : Room k A.in1 :=
  ⟨r.hd, by have := r.dp; show A.depth + 3 * k + 5 < _; omega, by have := r.un; show A.units + 1 + 16 * k + 200 < _; omega⟩
theorem make_depth {A : Around} {C : Addr} {us : List Value} {kw : List (Str × Value)} : (A.under (.builtin "type.__call__" ⟨.ref C :: us, kw⟩)).depth = A.depth + 1 := by
  first | rfl | simp [Around.under, Code.weight, Code.isCreation, Code.isGuard, Code.isCaller, Code.frames, Code.isFrame, guardIds]
theorem make_units {A : Around} {C : Addr} {us : List Value} {kw : List (Str × Value)} : (A.under (.builtin "type.__call__" ⟨.ref C :: us, kw⟩)).units = A.units + 1 := by
  first | rfl | simp [Around.under, Code.cUnits, Code.frames, Code.isFrame]
theorem Room.make {k : Nat} {A : Around} (r : Room (k + 1) A) (C : Addr) (us : List Value) (kw : List (Str × Value)) : Room k (A.under (.builtin "type.__call__" ⟨.ref C :: us, kw⟩)) :=
  ⟨r.hd, by have := r.dp; rw [make_depth]; omega, by have := r.un; rw [make_units]; omega⟩
theorem Room.depth {k : Nat} {A : Around} (r : Room k A) : A.depth < recursionLimit := by have := r.dp; omega
theorem Room.units {k : Nat} {A : Around} (r : Room k A) : A.units + 64 < cLine := by have := r.un; omega
/-! ### argument lists and displays -/
def tNil : TA := fun _ H Q => Q [] H
def tCons (ta : TE) (tr : TA) : TA := fun σ H Q => ta σ H fun x H1 => tr σ H1 fun xs H2 => Q (x :: xs) H2
section
variable {X : Cx} {e : Expr} {es : List Expr} {te : TE} {t : TA} {pos : Pos}
theorem pa_nil : PA X [] tNil := fun _ _ _ _ H Q I h => Calls.spliced_nil ⟨[], H, I, .nil, h⟩
theorem pa_cons (ha : PE X e te) (hr : PA X es t) (hs : starEach (e :: es) X.env = (false, eval e X.env) :: starEach es X.env := by rfl) : PA X (e :: es) (tCons te t) := by
  intro pos pins s σ H Q I h
  rw [hs]
  show wpAny _ _ (spliced ((false, eval e X.env) :: backTo pos (starEach es X.env))) _ _ s
  refine Calls.spliced_cons (thn (ha pins s σ H _ I h) fun u s1 ⟨x, H1, I1, r1, q1⟩ => ?_)
  exact thn (hr pos pins s1 σ H1 _ I1 q1) fun us s2 ⟨xs, H2, I2, r2, q2⟩ => ⟨x :: xs, H2, I2, .cons r1 r2, q2⟩

/-- a tuple, a list of written items -/
def tTup (t : TA) : TE := fun σ H Q => t σ H fun xs H1 => xs.length ≤ sizeLine ∧ ∀ p, H1 p = none → Q (.ref p) (upd H1 p (.tup xs))
def tLst (t : TA) : TE := fun σ H Q => t σ H fun xs H1 => xs.length ≤ sizeLine ∧ ∀ p, H1 p = none → Q (.ref p) (upd H1 p (.lst xs))
end

/-! ### what a def promises -/
/-- a def's promise: the bound arguments in the parameters' order, the heap, the wanted end, the wanted exception -/
abbrev Sp := List V → Hp → VK → XK → Prop
/-- how an exception lies behind a call (file 08 gives it): the callers' frames, abstract heap and state ahead of the call, the wish, the exception, the state -/
abbrev CXT := List Env → Hp → Shared → XK → Value → Shared → Prop

/-- the state at a call -/
structure Env0 (P : Program) (w : World) (K : PySem.W.Frag) (mg : Str → Option Value) (base : Heap) (A : Around) (outer : List Env) (s : Shared) (H : Hp) : Prop where
  frames : A.frames = some outer
  mod : Mod K mg base
  bs : ∀ b o, base.get? b = some o → s.heap.get? b = some o ∧ H b = none
  bsz : base.objs.size ≤ s.heap.objs.size
  funs : s.heap.FunFrames base outer
  frf : ∀ b ∈ frs outer, H b = none
  hok : HOk P w H s.heap
  bare : AllBare s.gens
/-- a call's end -/
def CE (outer : List Env) (P : Program) (w : World) (H : Hp) (s : Shared) (Q : VK) (u : Value) (s' : Shared) : Prop :=
  ∃ v H', s'.os = s.os ∧ AllBare s'.gens ∧ Un (frs outer) [] H H' s.heap s'.heap ∧ HOk P w H' s'.heap ∧ RelV v u ∧ Q v H'
def CR (CX : CXT) (outer : List Env) (P : Program) (w : World) (H : Hp) (s : Shared) (Q : VK) (E : XK) (r : Result) (s' : Shared) : Prop :=
  match r with
  | .ok (.ret u) => CE outer P w H s Q u s'
  | .ok _ => False
  | .error e => CX outer H s E e s'
structure FnOk (P : Program) (w : World) (K : PySem.W.Frag) (mg : Str → Option Value) (base : Heap) (CX : CXT) (k : Nat) (f : Addr) (fd : FuncData) (ps : List Str) (sp : Sp) : Prop where
  len : ∀ vs H Q E, sp vs H Q E → vs.length = ps.length
  run : ∀ (A : Around) (outer : List Env) (s : Shared) (H : Hp) (args : Args) (us : List Value) (vs : List V) (Q : VK) (E : XK), Room k A → Env0 P w K mg base A outer s H → BindsTo s fd args (ps.zip us) → Vals vs us → sp vs H Q E →
    codeAny (model P w) A (.call (.ref f) args) (CR CX outer P w H s Q E) s
theorem FnOk.mono {P : Program} {w : World} {K : PySem.W.Frag} {mg : Str → Option Value} {base : Heap} {CX : CXT} {j k : Nat} {f : Addr} {fd : FuncData} {ps : List Str} {sp : Sp} (F : FnOk P w K mg base CX j f fd ps sp) (h : j ≤ k) :
    FnOk P w K mg base CX k f fd ps sp := ⟨F.len, fun A outer s H args us vs Q E hr => F.run A outer s H args us vs Q E (hr.mono h)⟩
/-- a weaker promise -/
theorem FnOk.imp {P : Program} {w : World} {K : PySem.W.Frag} {mg : Str → Option Value} {base : Heap} {CX : CXT} {k : Nat} {f : Addr} {fd : FuncData} {ps : List Str} {sp sp' : Sp} (F : FnOk P w K mg base CX k f fd ps sp)
    (h : ∀ vs H Q E, sp' vs H Q E → sp vs H Q E) : FnOk P w K mg base CX k f fd ps sp' :=
  ⟨fun vs H Q E q => F.len vs H Q E (h _ _ _ _ q), fun A outer s H args us vs Q E hr he hb hv hs => F.run A outer s H args us vs Q E hr he hb hv (h _ _ _ _ hs)⟩

theorem Env0.make {P : Program} {w : World} {K : PySem.W.Frag} {mg : Str → Option Value} {base : Heap} {A : Around} {outer : List Env} {s : Shared} {H : Hp} (e : Env0 P w K mg base A outer s H) (C : Addr) (us : List Value) (kw : List (Str × Value)) :
    Env0 P w K mg base (A.under (.builtin "type.__call__" ⟨.ref C :: us, kw⟩)) outer s H := ⟨by first | exact e.frames | (simpa [Around.under, Code.envs, Code.isFrame, pushEnvs] using e.frames), e.mod, e.bs, e.bsz, e.funs, e.frf, e.hok, e.bare⟩
theorem Env0.in1 {P : Program} {w : World} {K : PySem.W.Frag} {mg : Str → Option Value} {base : Heap} {A : Around} {outer : List Env} {s : Shared} {H : Hp} (e : Env0 P w K mg base A outer s H) :
    Env0 P w K mg base A.in1 outer s H := ⟨e.frames, e.mod, e.bs, e.bsz, e.funs, e.frf, e.hok, e.bare⟩

section
variable {X : Cx} {pins : List (Addr × Obj)} {σ : St} {H : Hp} {s s' : Shared}
/-- from a body: what a callee wants -/
theorem Inv.env0 (I : Inv X pins σ H s) : Env0 X.prog X.w X.K X.mg X.base X.A X.stack s H :=
  ⟨I.ok.frames, I.ok.mod, I.bs, Nat.le_trans I.ok.bsz I.sz, I.stack, I.stkFree, I.hok, I.bare⟩
/-- behind a call -/
theorem Inv.after {Q : VK} {u : Value} (I : Inv X pins σ H s) (h : CE X.stack X.prog X.w H s Q u s') : EP X pins σ Q u s' := by
  obtain ⟨v, H', os, bare, un, hok, r, q⟩ := h
  obtain ⟨hh, g, d, t, os'⟩ := s'
  obtain rfl : os' = s.os := os
  exact ⟨v, H', I.call (h' := hh) (g' := g) (d' := d) (t' := t) (ch := []) un hok bare (fun b z => absurd z (by simp)), r, q⟩
end

/-! ### calls -/
/-- f(..): the written arguments, then the defaults dvs; E: what is wanted of an exception -/
def tCall (sp : Sp) (dvs : List V) (E : XK) (t : TA) : TE := fun σ H Q => t σ H fun vs H1 => sp (vs ++ dvs) H1 Q E
/-- o.m(..) of an instance of the class at C -/
def tMeth (C : Addr) (m : Str) (sp : Sp) (dvs : List V) (E : XK) (ta : TE) (t : TA) : TE := fun σ H Q => ta σ H fun x H1 => ∃ a dx fs, x = .ref a ∧ H1 a = some (.ins C dx fs) ∧ fs.lookup m = none ∧
  t σ H1 fun vs H2 => sp (x :: (vs ++ dvs)) H2 Q E
/-- C(..): a new instance and its dict, then __init__ -/
def tMake (C : Addr) (sp : Sp) (dvs : List V) (E : XK) (t : TA) : TE := fun σ H Q => t σ H fun vs H1 => ∀ x dx, H1 x = none → H1 dx = none → dx ≠ x →
  sp (.ref x :: (vs ++ dvs)) (upd (upd H1 dx (.own x)) x (.ins C dx [])) (fun v H2 => v = .non ∧ Q (.ref x) H2) E

/-- how the parameters are bound: us the positional arguments, kw the keywords' values by name, ds the defaults that fill up -/
def Binds (K : PySem.W.Frag) (fd : FuncData) (ps : List Str) (ds : List Value) : Prop :=
  ∀ (s : Shared) (us : List Value), K.In s.heap → (us ++ ds).length = ps.length → BindsTo s fd ⟨us, []⟩ (ps.zip (us ++ ds))
/-- every parameter is given -/
theorem Binds.all {K : PySem.W.Frag} {fd : FuncData} {ps : List Str} (h : ∀ us : List Value, us.length = ps.length → bindArgs fd ⟨us, []⟩ = pure (ps.zip us)) : Binds K fd ps [] := fun s us _ hl => by
  rw [List.append_nil] at hl ⊢
  exact .of_eq (h us hl)

/-- an exception of a callee reaches what this body wants of exceptions -/
def Passes (CX : CXT) (X : Cx) (E : XK) : Prop := ∀ (pins : List (Addr × Obj)) (σ : St) (H : Hp) (s : Shared) (e : Value) (s' : Shared), Inv X pins σ H s → CX X.stack H s E e s' → X.xe e s'

section
variable {X : Cx} {CX : CXT} {k : Nat} {f C : Addr} {fd : FuncData} {ps : List Str} {sp : Sp} {dvs : List V} {ds : List Value} {E : XK} {x m : Str} {p pos apos : Pos} {e o : Expr} {es : List Expr} {ta : TE} {t : TA}

/-- the callee runs -/
theorem run_fn {pins : List (Addr × Obj)} {σ : St} {H : Hp} {s : Shared} {Q : VK} {us : List Value} {vs : List V} (F : FnOk X.prog X.w X.K X.mg X.base CX k f fd ps sp) (hr : Room k X.A) (hb : Binds X.K fd ps ds) (hd : Vals dvs ds) (hx : Passes CX X E)
    (I : Inv X pins σ H s) (r : Vals vs us) (h : sp (vs ++ dvs) H Q E) : wpAny (model X.prog X.w) X.A (call (.ref f) us) (EP X pins σ Q) X.xe s := by
  have r2 : Vals (vs ++ dvs) (us ++ ds) := r.append hd
  have hl : (us ++ ds).length = ps.length := by rw [← r2.length]; exact F.len _ _ _ _ h
  refine wpAny_call (codeAny_mono (F.run X.A X.stack s H ⟨us, []⟩ (us ++ ds) (vs ++ dvs) Q E hr I.env0 (hb s us I.kIn hl) r2 h) fun r s' hq => ?_)
  cases r with
  | error e => exact hx pins σ H s e s' I hq
  | ok fl =>
    cases fl with
    | ret u => exact I.after hq
    | next => exact False.elim hq
    | brk => exact False.elim hq
    | cont => exact False.elim hq

theorem pe_call (F : FnOk X.prog X.w X.K X.mg X.base CX k f fd ps sp) (hr : Room k X.A) (hg : Gl X x) (hm : X.mg x = some (.ref f)) (hk : PySem.W.keepIn X.K (.ref f) = true) (hb : Binds X.K fd ps ds) (hd : Vals dvs ds) (hx : Passes CX X E)
    (ha : PA X (e :: es) t) (hdb : (x == ("__debug__" : Str)) = false := by decide) (he : starEach (e :: es) X.env = (false, eval e X.env) :: starEach es X.env := by rfl) (hpl : (backTo pos (starEach es X.env)).any (·.1) = false := by rfl) :
    PE X (.Call (.Name x p) (e :: es) [] pos) (tCall sp dvs E t) := by
  intro pins s σ H Q I h
  refine wpAny_Call_Name_kw (ld_glob I hg hm ?_ hdb)
  refine PySem.W.callWith_K (h₀ := X.base) I.ok.mod.kin hk (thn (ha pos pins s σ H _ I h) fun us s1 ⟨vs, H1, I1, r, q⟩ => ⟨I1.kIn, ?_⟩) he hpl
  exact run_fn F hr hb hd hx I1 r q
/-- what a class must have to be made -/
structure Mk (K : PySem.W.Frag) (C f : Addr) : Prop where
  makes : PySem.W.makesIn K C = true
  init : PySem.W.findIn K (.ref C) "__init__" = some (some (.ref f))
  fn : PySem.W.isFn K (.ref f) = true
  kp : PySem.W.keepIn K (.ref C) = true

end

/-! ### keywords -/
/-- the values of the keywords, from the left -/
def PK (X : Cx) (kws : List Keyword) (t : TA) : Prop :=
  ∀ (pos : Pos) (pins : List (Addr × Obj)) (s : Shared) (σ : St) (H : Hp) (Q : List V → Hp → Prop), Inv X pins σ H s → t σ H Q → wpAny (model X.prog X.w) X.A (evalAll ((backToKw pos (keywordEach kws X.env)).map (·.2))) (AP X pins σ Q) X.xe s
section
variable {X : Cx} {CX : CXT} {k : Nat} {f C : Addr} {fd : FuncData} {ps ks : List Str} {sp : Sp} {E : XK} {x m : Str} {p pos apos kpos : Pos} {e o : Expr} {es : List Expr} {kws : List Keyword} {te ta : TE} {t tk : TA} {nm : Option Str}
/-- how a call with keywords binds: g puts the positional values us and the keywords' values ws (names ks) in the parameters' order, defaults among them -/
structure KBinds (K : PySem.W.Frag) (fd : FuncData) (ps ks : List Str) (g : List Value → List Value → List Value) (gV : List V → List V → List V) : Prop where
  to : ∀ (s : Shared) (us ws : List Value), K.In s.heap → (g us ws).length = ps.length → BindsTo s fd ⟨us, ks.zip ws⟩ (ps.zip (g us ws))
  rel : ∀ {vs : List V} {us : List Value} {zs : List V} {ws : List Value}, Vals vs us → Vals zs ws → Vals (gV vs zs) (g us ws)
def tCallK (sp : Sp) (gV : List V → List V → List V) (E : XK) (t tk : TA) : TE := fun σ H Q => t σ H fun vs H1 => tk σ H1 fun zs H2 => sp (gV vs zs) H2 Q E
variable {g : List Value → List Value → List Value} {gV : List V → List V → List V}
end

/-! ### a def's body keeps its promise -/
/-- names: the parameters first -/
structure FnScope (N P : List Str) (sc : Scope) : Prop where
  kind : sc.kind = .function
  co : sc.isCoroutine = false
  gen : sc.isGenerator = false
  nd : N.Nodup
  pre : N.take P.length = P
  par : ∀ x ∈ P, sc.names.lookup x = some .local ∨ sc.names.lookup x = some .cell
  nofree : ∀ y ∈ sc.names, y.2 ≠ .free

theorem bindL_out {kindOf : Str → Option NameKind} {x : Str} : ∀ {binds : List (Str × Value)} {m : Str → Option Value}, (∀ v, (x, v) ∉ binds) → bindL kindOf binds m x = m x
  | [], _, _ => rfl
  | (n, v) :: r, m, h => by
    unfold bindL
    rw [bindL_out fun w hw => h w (List.mem_cons_of_mem _ hw)]
    split
    · have : x ≠ n := by rintro rfl; exact h v List.mem_cons_self
      simp [this]
    · rfl
theorem bindC_out {kindOf : Str → Option NameKind} {x : Str} : ∀ {binds : List (Str × Value)} {m : Str → Option Value}, (∀ v, (x, v) ∉ binds) → bindC kindOf binds m x = m x
  | [], _, _ => rfl
  | (n, v) :: r, m, h => by
    unfold bindC
    rw [bindC_out fun w hw => h w (List.mem_cons_of_mem _ hw)]
    split
    · rfl
    · have : x ≠ n := by rintro rfl; exact h v List.mem_cons_self
      simp [this]
theorem bindL_get {kindOf : Str → Option NameKind} {x : Str} {v : Value} : ∀ {P : List Str} {vs : List Value} {i : Nat} {m : Str → Option Value}, P.Nodup → P[i]? = some x → vs[i]? = some v → kindOf x = some .local →
    bindL kindOf (P.zip vs) m x = some v
  | [], _, _, _, _, h, _, _ => by simp at h
  | _ :: _, [], _, _, _, _, h, _ => by simp at h
  | p :: P, w :: vs, 0, m, nd, h1, h2, hk => by
    simp at h1 h2; subst h1; subst h2
    show bindL kindOf ((p, w) :: P.zip vs) m p = _
    unfold bindL
    rw [bindL_out fun v hv => (List.nodup_cons.mp nd).1 (List.of_mem_zip hv).1, if_pos hk]
    simp
  | p :: P, w :: vs, i + 1, m, nd, h1, h2, hk => by
    show bindL kindOf ((p, w) :: P.zip vs) m x = _
    unfold bindL
    exact bindL_get (i := i) (List.nodup_cons.mp nd).2 (by simpa using h1) (by simpa using h2) hk
theorem bindC_get {kindOf : Str → Option NameKind} {x : Str} {v : Value} : ∀ {P : List Str} {vs : List Value} {i : Nat} {m : Str → Option Value}, P.Nodup → P[i]? = some x → vs[i]? = some v → kindOf x ≠ some .local →
    bindC kindOf (P.zip vs) m x = some v
  | [], _, _, _, _, h, _, _ => by simp at h
  | _ :: _, [], _, _, _, _, h, _ => by simp at h
  | p :: P, w :: vs, 0, m, nd, h1, h2, hk => by
    simp at h1 h2; subst h1; subst h2
    show bindC kindOf ((p, w) :: P.zip vs) m p = _
    unfold bindC
    rw [bindC_out fun v hv => (List.nodup_cons.mp nd).1 (List.of_mem_zip hv).1, if_neg hk]
    simp
  | p :: P, w :: vs, i + 1, m, nd, h1, h2, hk => by
    show bindC kindOf ((p, w) :: P.zip vs) m x = _
    unfold bindC
    exact bindC_get (i := i) (List.nodup_cons.mp nd).2 (by simpa using h1) (by simpa using h2) hk

/-- the names' values at the entry -/
def start (N : List Str) (vs : List V) : St := vs.map some ++ List.replicate (N.length - vs.length) none

/-- the context of a def's body, at its entry; an exception leaves the frame, then lies as CX says -/
def cxOf (CX : CXT) (P : Program) (w : World) (K : PySem.W.Frag) (mg : Str → Option Value) (base : Heap) (N : List Str) (qual : Str) (scope : Scope) (f : Addr) (cd : Value) (A : Around) (outer : List Env) (s : Shared) (H : Hp) (E : XK) : Cx where
  prog := P
  w := w
  K := K
  mg := mg
  base := base
  A := A.deeper (envOfC qual scope s.heap.objs.size f cd)
  N := N
  s₀ := s
  H₀ := H
  env := envOfC qual scope s.heap.objs.size f cd
  outer := outer
  stack := envOfC qual scope s.heap.objs.size f cd :: outer
  ex := []
  calm := true
  fn := fun _ => true
  pn := []
  xe := fun e s' => wpAny (model P w) (A.deeper (envOfC qual scope s.heap.objs.size f cd)) (leaving (envOfC qual scope s.heap.objs.size f cd) e) (fun _ s'' => CX outer H s E e s'') (fun e' s'' => CX outer H s E e' s'') s'

theorem cell_has {sc : Scope} {n : Nat} {x : Str} (h : sc.names.lookup x = some .cell) : ∃ c, (cellsFrom n sc.names []).lookup x = some c := by
  have q := PySem.W.cellsFrom_some sc.names n [] (.inl h)
  exact Option.isSome_iff_exists.mp q

theorem inv_start {CX : CXT} {P : Program} {w : World} {K : PySem.W.Frag} {mg : Str → Option Value} {base : Heap} {N ps : List Str} {qual : Str} {scope : Scope} {f : Addr} {cd : Value} {A : Around} {outer : List Env} {s s1 : Shared} {H : Hp} {E : XK} {us : List Value} {vs : List V}
    (S : FnScope N ps scope) (hd : A.handled = none) (e0 : Env0 P w K mg base A outer s H) (hl : vs.length = ps.length) (r : Vals vs us)
    (x : InCallC s s.heap.objs.size (bindL (envOfC qual scope s.heap.objs.size f cd).kindOf (ps.zip us) fun _ => none) (cellsFrom (s.heap.objs.size + 1) scope.names []) (bindC (envOfC qual scope s.heap.objs.size f cd).kindOf (ps.zip us) fun _ => none) s1) :
    Inv (cxOf CX P w K mg base N qual scope f cd A outer s H E) [] (start N vs) H s1 := by
  have hpl : ps.length ≤ N.length := by have := congrArg List.length S.pre; rw [List.length_take] at this; omega
  obtain ⟨h1, tk, rfl, hk⟩ := x.done
  have noA : ∀ b : Addr, b ∉ (cxOf CX P w K mg base N qual scope f cd A outer s H E).ex := fun b z => absurd (show b ∈ ([] : List Addr) from z) (by simp)
  refine ⟨⟨e0.mod, S.kind, rfl, rfl, Nat.le_refl _, fun y z c h1 h2 => ?_, fun y hy => ?_, fun y c _ h => ?_, fun _ => hd, Around.frames_deeper e0.frames, .inr ⟨rfl, rfl⟩, fun b z => absurd z (noA b), e0.bs, e0.bsz, fun b _ _ => noA b, fun b z => absurd z (noA b), e0.funs, e0.frf⟩,
    rfl, e0.bare, Un.kept hk, ⟨_, x.toInCall.ns, fun i y v h1 h2 h3 => ?_⟩, fun y c h => ⟨_, x.cell y c h⟩, e0.hok.fresh (Nat.le_refl _), fun y c h => ?_, fun p hp => absurd (show p ∈ ([] : List (Addr × Obj)) from hp) (by simp), e0.hok.kept hk, ?_⟩
  · exact name_of_addr x.apart (PySem.mem_of_lookup h1) (PySem.mem_of_lookup h2)
  · have hy : scope.names.lookup y = some .cell ∨ scope.names.lookup y = some .free := hy
    rcases hy with hy | hy
    · exact cell_has hy
    · exact absurd rfl (S.nofree _ (PySem.mem_of_lookup hy))
  · exact Nat.le_of_lt (x.above y c (PySem.mem_of_lookup h))
  · have hi : i < vs.length := by
      unfold start at h2
      by_cases hi : i < vs.length
      · exact hi
      · rw [List.getElem?_append_right (by simpa using hi)] at h2
        rw [List.getElem?_replicate] at h2
        split at h2 <;> cases h2
    have ha : vs[i]? = some v := by
      unfold start at h2
      rw [List.getElem?_append_left (by simpa using hi), List.getElem?_map] at h2
      cases e : vs[i]? with
      | none => rw [e] at h2; cases h2
      | some a => rw [e] at h2; cases h2; rfl
    obtain ⟨u, hu, rv⟩ := r.get ha
    have hp : ps[i]? = some y := by
      rw [← S.pre, List.getElem?_take_of_lt (by omega)]; exact h1
    have ndP : ps.Nodup := by rw [← S.pre]; exact S.nd.sublist (List.take_sublist _ _)
    refine ⟨u, rv, ?_⟩
    rcases S.par y (List.mem_of_getElem? hp) with k | k
    · exact .inl ⟨k, bindL_get ndP hp hu k⟩
    · obtain ⟨c, e⟩ := cell_has (n := s.heap.objs.size + 1) k
      refine .inr ⟨.inl k, c, e, ?_⟩
      have q := x.cell y c e
      rw [bindC_get ndP hp hu (by show scope.names.lookup y ≠ _; rw [k]; decide)] at q
      exact q
  · exact e0.hok.fresh (Nat.le_of_lt (x.above y c (PySem.mem_of_lookup h)))
  · unfold start
    show _ = N.length
    rw [List.length_append, List.length_map, List.length_replicate]
    omega

/-- THE RULE: a def (or a method) of the text, by its body. The body's reading t is chosen for each entry; it is run at the parameters' values -/
theorem fn_of {CX : CXT} {P : Program} {w : World} {K : PySem.W.Frag} {mg : Str → Option Value} {base : Heap} {k : Nat} {f : Addr} {name qual : Str} {params : Arguments} {body : List Stmt} {scope : Scope} {dV kV doc pm cdv ct oc : Value} {an od : Option Addr}
    {osl : Array (Option Value)} {N ps : List Str} {sp : Sp} (lk : K.lookup f = some ⟨oc, od, .func (PySem.W.fnOf name qual params body scope dV kV doc pm an cdv ct), osl⟩) (hcd : PySem.W.codeIn K cdv qual = true) (S : FnScope N ps scope)
    (len : ∀ vs H Q E, sp vs H Q E → vs.length = ps.length)
    (hbody : ∀ (A : Around) (outer : List Env) (s : Shared) (H : Hp) (vs : List V) (Q : VK) (E : XK), Room k (A.deeper (envOfC qual scope s.heap.objs.size f cdv)) → sp vs H Q E →
      ∃ t, PSs (cxOf CX P w K mg base N qual scope f cdv A outer s H E) body t ∧ t { nx := fun _ H' => Q .non H', rt := Q } (start N vs) H) :
    FnOk P w K mg base CX (k + 1) f (PySem.W.fnOf name qual params body scope dV kV doc pm an cdv ct) ps sp := by
  refine ⟨len, fun A outer s H args us vs Q E hr e0 hb r hsp => ?_⟩
  have hl := len _ _ _ _ hsp
  have KX : K.In s.heap := e0.mod.kin.keeps fun b o e => (e0.bs b o e).1
  have lim : s.heap.NoLimit := e0.mod.nolimit.keeps fun b o e => (e0.bs b o e).1
  have hkind : ∀ y ∈ ps.zip us, scope.names.lookup y.1 = some .local ∨ (scope.names.lookup y.1 = some .cell ∧ ((cellsFrom (s.heap.objs.size + 1) scope.names []).lookup y.1).isSome = true) := fun ⟨n, v⟩ hy => by
    rcases S.par n (List.of_mem_zip hy).1 with q | q
    · exact .inl q
    · exact .inr ⟨q, PySem.W.cellsFrom_some _ _ _ (.inl q)⟩
  refine codeAny_call_function hr.depth (KX _ _ lk) rfl S.co S.gen rfl (PySem.W.codeRec_of KX hcd) (hb _ _ _ _ ?_)
  refine wpAny_newFunctionEnv_cells S.kind hkind fun env he s1 x => ?_
  subst he
  refine ⟨lim.keeps x.toInCall.keep, codeAny_func ?_⟩
  obtain ⟨t, ht, hq⟩ := hbody A outer s H vs Q E (hr.deeper _) hsp
  have I : Inv (cxOf CX P w K mg base N qual scope f cdv A outer s H E) [] (start N vs) H s1 := inv_start S hr.hd e0 hl r x
  refine wpAny_mono (ht [] s1 (start N vs) H _ I hq) (fun fl s' hs => ?_) fun e s' hs => hs
  have fin : ∀ {σ' : St} {H' : Hp} {v : V} {u : Value}, Inv (cxOf CX P w K mg base N qual scope f cdv A outer s H E) [] σ' H' s' → RelV v u → Q v H' → CE outer P w H s Q u s' :=
    fun {σ' H' v u} J rv q => ⟨v, H', J.os, J.bare, J.base, J.hok, rv, q⟩
  cases fl with
  | ret u =>
    obtain ⟨v, σ', H', J, rv, q⟩ := hs
    exact fin J rv q
  | next =>
    obtain ⟨σ', H', J, q⟩ := hs
    exact fin (v := V.non) (u := Value.none) J rfl q
  | brk =>
    obtain ⟨_, _, _, q⟩ := hs
    exact False.elim q
  | cont =>
    obtain ⟨_, _, _, q⟩ := hs
    exact False.elim q
end L2

namespace L2
open PySem PySem.Spec PyProof.Rows
section
variable {X : Cx} {x : Str} {p pos : Pos} {e : Expr} {es : List Expr} {t : TA} {id T : String} {r : List V → Hp → VK → Prop}

def tCB (r : List V → Hp → VK → Prop) (t : TA) : TE := fun σ H Q => t σ H fun vs H1 => r vs H1 Q
/-- f(e, ..), f a built-in function -/
theorem pe_callB (hc : CallR X (.builtin id) r) (hg : Gl X x) (hm : X.mg x = none) (hv : bootBuiltins x = some (.builtin id)) (ha : PA X (e :: es) t) (hn : x ≠ "__name__" := by decide) (hdb : (x == ("__debug__" : Str)) = false := by decide)
    (he : starEach (e :: es) X.env = (false, eval e X.env) :: starEach es X.env := by rfl) (hpl : (backTo pos (starEach es X.env)).any (·.1) = false := by rfl) : PE X (.Call (.Name x p) (e :: es) [] pos) (tCB r t) := by
  intro pins s σ H Q I h
  refine wpAny_Call_Name_kw (ld_blt I hg hm hv ?_ hn hdb)
  exact PyProof.Rows.callWith_builtin1 (thn (ha pos pins s σ H _ I h) fun us s1 ⟨vs, H1, I1, r1, q1⟩ => hc pins s1 σ H1 vs us Q I1 r1 q1) he hpl
/-- T(e, ..), T a built-in type -/
theorem pe_callTy (hc : CallR X (.type T) r) (hg : Gl X x) (hm : X.mg x = none) (hv : bootBuiltins x = some (.type T)) (ha : PA X (e :: es) t) (hn : x ≠ "__name__" := by decide) (hdb : (x == ("__debug__" : Str)) = false := by decide)
    (he : starEach (e :: es) X.env = (false, eval e X.env) :: starEach es X.env := by rfl) (hpl : (backTo pos (starEach es X.env)).any (·.1) = false := by rfl) : PE X (.Call (.Name x p) (e :: es) [] pos) (tCB r t) := by
  intro pins s σ H Q I h
  refine wpAny_Call_Name_kw (ld_blt I hg hm hv ?_ hn hdb)
  exact PyProof.Rows.callWith_type1 (thn (ha pos pins s σ H _ I h) fun us s1 ⟨vs, H1, I1, r1, q1⟩ => hc pins s1 σ H1 vs us Q I1 r1 q1) he hpl
end
end L2

namespace HT
open PySem PyProof.Rows

/-- t < u of tuples of ints -/
def lexLt : List Int → List Int → Bool
  | [], [] => false
  | [], _ :: _ => true
  | _ :: _, [] => false
  | x :: xs, y :: ys => if x = y then lexLt xs ys else decide (x < y)
section
open PySem.SeqAt
open PySem.AutoSeq1 (wpAny_loadPart')
open PySem.MeetsSeq PySem.MeetsSeq2 PySem.MeetsSeq3

end

section
variable {prog : Program} {w : World} {A : Around} {E : Value → Shared → Prop} {s : Shared}

/-- t + u, t not empty -/
theorem cat_tup {t b : Addr} {vs ws : List Value} {Q : Value → Shared → Prop} (ht : IsTup s.heap t vs.toArray) (hb : IsTup s.heap b ws.toArray) (hv : vs ≠ [])
    (h1 : ws = [] → Q (.ref t) s) (h2 : ws ≠ [] → Q (.ref s.heap.objs.size) { s with heap := s.heap.push { cls := .type "tuple", data := .seq (vs ++ ws).toArray } })
    (hsz : vs.length + ws.length ≤ sizeLine) : wpAny (model prog w) A (binaryOp .Add (.ref t) (.ref b)) Q E s := by
  obtain ⟨⟨cls, dd, data, sl⟩, ho, hc, n, hd⟩ := id ht
  obtain ⟨⟨cls2, dd2, data2, sl2⟩, ho2, hc2, n2, hd2⟩ := id hb
  simp only at hc hd hc2 hd2
  subst hc hd hc2 hd2
  have e : vs.toArray ++ ws.toArray = (vs ++ ws).toArray := by simp
  by_cases hw : ws = []
  · exact concat_meets ⟨_, ho, rfl⟩ ⟨_, ho2, rfl⟩ noFill_tuple_add seq_tuple_add PySem.F.slot_tuple_add PySem.F.entry_tuple_add (PySem.F.args_tuple_add_2 _ _)
      (tuple_addW1 t b vs.toArray ws.toArray n n2 dd dd2 sl sl2 (by simpa using hv) (by simp [hw])) ⟨ho, ho2, h1 hw⟩
  · refine concat_meets ⟨_, ho, rfl⟩ ⟨_, ho2, rfl⟩ noFill_tuple_add seq_tuple_add PySem.F.slot_tuple_add PySem.F.entry_tuple_add (PySem.F.args_tuple_add_2 _ _)
      (tuple_addW2 t b vs.toArray ws.toArray n n2 dd dd2 sl sl2 (by simpa using hv) (by simpa using hw) (by rw [List.size_toArray, List.size_toArray]; exact hsz)) ⟨ho, ho2, ?_⟩
    rw [e]
    exact h2 hw

/-! ### t[a:b], not the whole -/
/-- a slice's bound as a place among n (d where it is left out) -/
def sIx (n d : Nat) : Option Int → Nat
  | none => d
  | some v => if v < 0 then (v + (n : Int)).toNat else min v.toNat n
theorem sIx_none (n d : Nat) : sIx n d none = d := rfl
theorem sIx_nat (n d k : Nat) : sIx n d (some (k : Int)) = min k n := by
  show (if (k : Int) < 0 then ((k : Int) + (n : Int)).toNat else min (k : Int).toNat n) = min k n
  rw [if_neg (by omega), Int.toNat_natCast]
theorem sIx_le (n d : Nat) (hd : d ≤ n) (o : Option Int) : sIx n d o ≤ n := by
  cases o with
  | none => exact hd
  | some v =>
    show (if v < 0 then (v + (n : Int)).toNat else min v.toNat n) ≤ n
    by_cases hv : v < 0
    · rw [if_pos hv]; omega
    · rw [if_neg hv]; exact Nat.min_le_right _ _
theorem clip_eq (v : Int) (n d : Nat) : (if v < 0 then max (v + (n : Int)) 0 else min v (n : Int)) = ((sIx n d (some v) : Nat) : Int) := by
  show (if v < 0 then max (v + (n : Int)) 0 else min v (n : Int)) = (((if v < 0 then (v + (n : Int)).toNat else min v.toNat n) : Nat) : Int)
  by_cases hv : v < 0
  · simp only [if_pos hv]; omega
  · simp only [if_neg hv]; omega
theorem adjust_gen (lo hi : Option Int) (n : Nat) : Builtin.Slice.sliceAdjust lo hi 1 (n : Int) = (((sIx n 0 lo : Nat) : Int), ((sIx n n hi : Nat) : Int)) := by
  have h1 : ¬ ((1 : Int) < 0) := by omega
  unfold Builtin.Slice.sliceAdjust
  simp only [h1, if_false]
  refine Prod.ext ?_ ?_
  · cases lo with
    | none => rfl
    | some v => exact clip_eq v n 0
  · cases hi with
    | none => rfl
    | some v => exact clip_eq v n n
theorem places_gen (i j : Nat) : Builtin.Slice.slicePlaces (i : Int) (j : Int) 1 = j - i := by
  unfold Builtin.Slice.slicePlaces
  have h1 : (1 : Int) > 0 := by omega
  simp only [h1, if_true, Int.ediv_one]
  split <;> omega
theorem slicePart_ {v : Value} {o : Option Int} {Q : Option Int → Shared → Prop} (p : IsPart v o) (h : Q o s) : wpAny (model prog w) A (Builtin.Slice.slicePartIndex v) Q E s := by
  cases p with
  | none => exact slicePart_none h
  | int i t => exact slicePart_int h
theorem sliceApplied_gen {sl : Addr} {vl vu : Value} {lo hi : Option Int} {n : Nat} {Q : Int × Int × Nat → Shared → Prop} (hs : s.heap.IsSliceOf sl vl vu .none) (pl : IsPart vl lo) (pu : IsPart vu hi)
    (h : Q (((sIx n 0 lo : Nat) : Int), 1, sIx n n hi - sIx n 0 lo) s) : wpAny (model prog w) A (Builtin.Slice.sliceApplied (.ref sl) (pure (n : Int))) Q E s := by
  obtain ⟨os, hos, hcs, hds⟩ := id hs
  unfold Builtin.Slice.sliceApplied Builtin.Slice.sliceFields
  refine wpAny_bind (wpAny_bind (wpAny_field hos hds (x := vl) rfl (wpAny_bind (wpAny_field hos hds (x := vu) rfl (wpAny_bind (wpAny_field hos hds (x := .none) rfl (wpAny_pure ?_)))))))
  refine wpAny_bind (slicePart_none ?_)
  show wpAny _ _ (if ((1 : Int) == 0) = true then _ else _) _ _ s
  rw [if_neg (by decide)]
  refine wpAny_bind (slicePart_ pl (wpAny_bind (slicePart_ pu (wpAny_bind (wpAny_pure ?_)))))
  show wpAny _ _ (match Builtin.Slice.sliceAdjust lo hi 1 (n : Int) with | (lo, hi) => pure (lo, (1 : Int), Builtin.Slice.slicePlaces lo hi 1)) _ _ s
  rw [adjust_gen lo hi n]
  show wpAny _ _ (pure (((sIx n 0 lo : Nat) : Int), (1 : Int), Builtin.Slice.slicePlaces ((sIx n 0 lo : Nat) : Int) ((sIx n n hi : Nat) : Int) 1)) _ _ s
  rw [places_gen]
  exact wpAny_pure h
theorem pick_gen (xs : Array Value) (i k : Nat) : ((List.range k).filterMap fun (m : Nat) => xs[((i : Int) + (m : Int) * 1).toNat]?).toArray = ((xs.toList.drop i).take k).toArray := by
  have e : (fun (m : Nat) => xs[((i : Int) + (m : Int) * 1).toNat]?) = fun m => xs[i + m]? := by
    funext m
    have : ((i : Int) + (m : Int) * 1).toNat = i + m := by omega
    rw [this]
  rw [e]
  have := pick_run xs i k
  rw [List.filterMap_map] at this
  have e2 : ((fun x => xs[x]?) ∘ fun x => i + x) = fun m => xs[i + m]? := rfl
  rw [e2] at this
  rw [this]

theorem getItem_tuple_cut {t sl : Addr} {items : Array Value} {vl vu : Value} {lo hi : Option Int} {Q : Value → Shared → Prop} (ht : IsTup s.heap t items) (hs : s.heap.IsSliceOf sl vl vu .none) (pl : IsPart vl lo) (pu : IsPart vu hi)
    (hw : ¬ (sIx items.size 0 lo = 0 ∧ sIx items.size items.size hi = items.size))
    (h : Q (.ref s.heap.objs.size) { s with heap := s.heap.push { cls := .type "tuple", data := .seq ((items.toList.drop (sIx items.size 0 lo)).take (sIx items.size items.size hi - sIx items.size 0 lo)).toArray } })
    (hsz : items.size ≤ sizeLine) : wpAny (model prog w) A (getItem (.ref t) (.ref sl)) Q E s := by
  have htake : sizeOk (.seq ((items.toList.drop (sIx items.size 0 lo)).take (sIx items.size items.size hi - sIx items.size 0 lo)).toArray) := by
    show ((items.toList.drop (sIx items.size 0 lo)).take (sIx items.size items.size hi - sIx items.size 0 lo)).toArray.size ≤ sizeLine
    rw [List.size_toArray, List.length_take, List.length_drop, Array.length_toList]
    omega
  have hj : sIx items.size items.size hi ≤ items.size := sIx_le _ _ (Nat.le_refl _) hi
  obtain ⟨os, hos, hcs, hds⟩ := id hs
  have hTs : s.TypeIs (.ref sl) "slice" := ⟨os, hos, hcs⟩
  unfold getItem
  try with_reducible refine wpAny_holding ?_
  first | refine wpAny_bind (wpAny_pure ?_) | skip
  refine wpAny_bind (wpAny_sequenceKey ht.typeIs (by decide) ?_)
  refine wpAny_bind (wpAny_callSpecial?_slot (name := Str.ofString "__getitem__") ht.typeIs PyProof.Rows.slot_tuple_getitem
    (wpAny_call_entry PyProof.Rows.slot_tuple_getitem ht.typeIs entry_tuple_getitem ?_ (args_tuple_getitem _ _)))
  show wpAny _ _ (Builtin.Tuple.tupleItemsOf (.ref t) >>= _) _ _ s
  refine wpAny_bind (tupleItemsOf_ ht ?_)
  refine wpAny_bind (wpAny_typeOf hTs ?_)
  rw [if_pos (by decide)]
  refine wpAny_bind (sliceApplied_gen hs pl pu ?_)
  have hno : ¬ ((((sIx items.size 0 lo : Nat) : Int) == 0 && (1 : Int) == 1 && (sIx items.size items.size hi - sIx items.size 0 lo) == items.size) = true) := by
    intro q
    rw [Bool.and_eq_true, Bool.and_eq_true] at q
    have q1 : ((sIx items.size 0 lo : Nat) : Int) = 0 := eq_of_beq q.1.1
    have q2 : sIx items.size items.size hi - sIx items.size 0 lo = items.size := eq_of_beq q.2
    exact hw ⟨by omega, by omega⟩
  show wpAny _ _ (if (((sIx items.size 0 lo : Nat) : Int) == 0 && (1 : Int) == 1 && (sIx items.size items.size hi - sIx items.size 0 lo) == items.size) = true then _ else _) _ _ s
  rw [if_neg hno, pick_gen]
  first
    | exact wpAny_bind (m := Builtin.Tuple.tupleExact _) (wpAny_newObj_type (wpAny_pure ⟨_, rfl, wpAny_pure h⟩) htake)
    | exact wpAny_bind (m := Builtin.Tuple.tupleExact _) (wpAny_newObj_type (wpAny_bind (wpAny_pure (wpAny_pure ⟨_, rfl, wpAny_pure h⟩))) htake)
    | exact wpAny_bind (wpAny_bind (m := Builtin.Tuple.tupleExact _) (wpAny_newObj_type (wpAny_pure (wpAny_pure ⟨_, rfl, wpAny_pure h⟩)) htake))
    | exact wpAny_bind (wpAny_bind (m := Builtin.Tuple.tupleExact _) (wpAny_newObj_type (wpAny_pure ⟨_, rfl, wpAny_pure h⟩) htake))
end
end HT

namespace L2
open PySem PySem.Spec PyProof.Rows

/-! ### the parts of a slice -/
abbrev TO := St → Hp → (Option Int → Hp → Prop) → Prop
/-- a slice's part (left out, or an int) -/
def PO (X : Cx) (e : Option Expr) (t : TO) : Prop :=
  ∀ (pins : List (Addr × Obj)) (s : Shared) (σ : St) (H : Hp) (Q : Option Int → Hp → Prop), Inv X pins σ H s → t σ H Q →
    wpAny (model X.prog X.w) X.A (evalPart e X.env) (fun u s' => ∃ o H', Inv X pins σ H' s' ∧ IsPart u o ∧ Q o H') X.xe s
def tNoPart : TO := fun _ H Q => Q none H
def tPart (t : TE) : TO := fun σ H Q => t σ H fun x H1 => ∃ i, x = .int i ∧ Q (some i) H1

theorem intsAre_of {ns : List Int} : ∀ {us : List Value}, Vals (ns.map V.int) us → IntsAre us ns := by
  induction ns with
  | nil => intro us r; rw [List.map_nil] at r; cases r; exact .nil
  | cons n ns ih =>
    intro us r
    rw [List.map_cons] at r
    cases r with
    | cons r1 r2 =>
      obtain ⟨t, e⟩ := r1
      subst e
      exact .cons n t (ih r2)

section
variable {X : Cx} {e : Expr} {te : TE} {lo hi : Option Expr} {tl th : TO} {pos p2 : Pos}

theorem po_none : PO X none tNoPart := by
  intro pins s σ H Q I h
  rw [evalPart_none]
  exact wpAny_pure ⟨none, H, I, .none, h⟩
theorem po_some (h : PE X e te) : PO X (some e) (tPart te) := by
  intro pins s σ H Q I hw
  rw [evalPart_some]
  refine thn (h pins s σ H _ I hw) fun u s1 ⟨x, H1, I1, r1, q1⟩ => ?_
  obtain ⟨i, rfl, q⟩ := q1
  obtain ⟨t, rfl⟩ := r1
  exact ⟨some i, H1, I1, .int i t, q⟩

/-- what a slice of a value is, by values: the slice object stands at sl -/
def SlR (X : Cx) (r : V → Option Int → Option Int → Hp → VK → Prop) : Prop :=
  ∀ (pins : List (Addr × Obj)) (s : Shared) (σ : St) (H : Hp) (x : V) (v vl vu : Value) (lo hi : Option Int) (sl : Addr) (Q : VK), Inv X pins σ H s → RelV x v → s.heap.IsSliceOf sl vl vu .none → IsPart vl lo → IsPart vu hi → r x lo hi H Q →
    ∃ T id, typeLookup (.type T) "__getitem__" = pure (some (.builtin id)) ∧ s.TypeIs v T ∧ wpAny (model X.prog X.w) X.A (getItem v (.ref sl)) (EP X pins σ Q) X.xe s
theorem SlR.or {r r' : V → Option Int → Option Int → Hp → VK → Prop} (h : SlR X r) (h' : SlR X r') : SlR X (fun x lo hi H Q => r x lo hi H Q ∨ r' x lo hi H Q) := by
  intro pins s σ H x v vl vu lo hi sl Q I rx hs pl pu q
  rcases q with q | q
  · exact h pins s σ H x v vl vu lo hi sl Q I rx hs pl pu q
  · exact h' pins s σ H x v vl vu lo hi sl Q I rx hs pl pu q
def tSl (r : V → Option Int → Option Int → Hp → VK → Prop) (te : TE) (tl th : TO) : TE := fun σ H Q => te σ H fun x H1 => tl σ H1 fun l H2 => th σ H2 fun u H3 => r x l u H3 Q
/-- a[lo:hi], any a -/
theorem pe_slice {r : V → Option Int → Option Int → Hp → VK → Prop} (hr : SlR X r) (he : PE X e te) (hl : PO X lo tl) (hu : PO X hi th) : PE X (.Subscript e (.Slice lo hi none p2) pos) (tSl r te tl th) := by
  intro pins s σ H Q I h
  refine Subscript_ (thn (he pins s σ H _ I h) fun v s1 ⟨x, H1, I1, r1, q1⟩ => ?_)
  refine wpAny_Slice (thn (hl pins s1 σ H1 _ I1 q1) fun vl s2 ⟨l, H2, I2, pl, q2⟩ => thn (hu pins s2 σ H2 _ I2 q2) fun vu s3 ⟨u, H3, I3, pu, q3⟩ => ?_)
  rw [evalPart_none]
  refine wpAny_pure ?_
  have I4 : Inv X pins σ H3 { s3 with heap := s3.heap.push { cls := .type "slice", data := .fields #[vl, vu, .none] } } := I3.kept (t' := s3.toks) fun b ob q => Heap.get?_push_of_some _ q
  obtain ⟨T, id, hT, ht, hg⟩ := hr pins { s3 with heap := s3.heap.push { cls := .type "slice", data := .fields #[vl, vu, .none] } } σ H3 x v vl vu l u s3.heap.objs.size Q I4 r1 (Heap.IsSliceOf.new ..) pl pu q3
  show wpAny (model X.prog X.w) X.A (subscriptTail e (.Slice lo hi none p2) v (.ref s3.heap.objs.size)) (EP X pins σ Q) X.xe { s3 with heap := s3.heap.push { cls := .type "slice", data := .fields #[vl, vu, .none] } }
  exact tail_any (ops := [.ref s3.heap.objs.size, v]) ht hT hg (by with_unfolding_all rfl)

/-- the items of xs[lo:hi] -/
def cutV (xs : List V) (lo hi : Option Int) : List V := (xs.drop (HT.sIx xs.length 0 lo)).take (HT.sIx xs.length xs.length hi - HT.sIx xs.length 0 lo)
theorem cutV_length (xs : List V) (lo hi : Option Int) : (cutV xs lo hi).length ≤ xs.length := by
  unfold cutV
  rw [List.length_take, List.length_drop]
  omega
/-- t[lo:hi], not the whole of it (the whole would be t itself) -/
def rSlT (K : PySem.W.Frag) : V → Option Int → Option Int → Hp → VK → Prop := fun x lo hi H Q => ∃ a xs, x = .ref a ∧ SqT K H a xs ∧
  ¬ (HT.sIx xs.length 0 lo = 0 ∧ HT.sIx xs.length xs.length hi = xs.length) ∧ ∀ p, H p = none → Q (.ref p) (upd H p (.tup (cutV xs lo hi)))
theorem sl_tup : SlR X (rSlT X.K) := by
  intro pins s σ H x v vl vu lo hi sl Q I rx hs pl pu h
  obtain ⟨a, xs, rfl, hx, hw, q⟩ := h
  cases rx
  obtain ⟨its, r, ht, hz⟩ := I.tuple hx
  have hlen : its.toArray.size = xs.length := by rw [List.size_toArray]; exact r.length.symm
  refine ⟨"tuple", _, PyProof.Rows.slot_tuple_getitem.lookup, ht.typeIs, ?_⟩
  refine HT.getItem_tuple_cut ht hs pl pu (by rw [hlen]; exact hw) ?_ (by rw [hlen]; exact hz)
  rw [hlen]
  refine ⟨.ref s.heap.objs.size, _, I.laid (t' := s.toks) (o := .tup (cutV xs lo hi)) (fun b ob q => Heap.get?_push_of_some _ q) (Nat.le_refl _) ?_, rfl, q _ (I.hok.fresh (Nat.le_refl _))⟩
  exact ⟨Nat.le_trans (cutV_length xs lo hi) hz, _, (r.drop (HT.sIx xs.length 0 lo)).take (HT.sIx xs.length xs.length hi - HT.sIx xs.length 0 lo), IsTup.new _ _⟩

/-! ### t < u, t + u -/
def rLtT (K : PySem.W.Frag) : R2 := fun x y H Q => ∃ a b ns ms, x = .ref a ∧ y = .ref b ∧ SqT K H a (ns.map V.int) ∧ SqT K H b (ms.map V.int) ∧ Q (.bl (HT.lexLt ns ms)) H
/-- t + u, t not empty: u empty gives t itself -/
def rCatT (K : PySem.W.Frag) : R2 := fun x y H Q => ∃ a b xs ys, x = .ref a ∧ y = .ref b ∧ SqT K H a xs ∧ SqT K H b ys ∧ xs ≠ [] ∧ xs.length + ys.length ≤ sizeLine ∧
  (ys = [] → Q (.ref a) H) ∧ (ys ≠ [] → ∀ p, H p = none → Q (.ref p) (upd H p (.tup (xs ++ ys))))
theorem Vals.nil_iff {xs : List V} {us : List Value} (r : Vals xs us) : us = [] ↔ xs = [] := by
  cases r with
  | nil => simp
  | cons _ _ => simp
theorem op_catT : OpR X (binaryOp .Add) (rCatT X.K) := by
  intro pins s σ H x y v u Q I rx ry h
  obtain ⟨a, b, xs, ys, rfl, rfl, ha, hb, hx, hz, q1, q2⟩ := h
  cases rx
  cases ry
  obtain ⟨its, r1, p1, _⟩ := I.tuple ha
  obtain ⟨its2, r2, p2, _⟩ := I.tuple hb
  refine HT.cat_tup p1 p2 (fun z => hx (r1.nil_iff.mp z)) (fun z => ⟨.ref a, H, I, rfl, q1 (r2.nil_iff.mp z)⟩) (fun z => ?_) (by rw [← r1.length, ← r2.length]; exact hz)
  refine ⟨.ref s.heap.objs.size, _, I.laid (t' := s.toks) (o := .tup (xs ++ ys)) (fun b ob q => Heap.get?_push_of_some _ q) (Nat.le_refl _) ?_, rfl, q2 (fun w => z (r2.nil_iff.mpr w)) _ (I.hok.fresh (Nat.le_refl _))⟩
  exact ⟨by rw [List.length_append]; exact hz, _, r1.append r2, IsTup.new _ _⟩
end
end L2

namespace L2
open PySem PySem.Spec PyProof.Rows

/-! ### places -/
/-- the place that an index of any sign means -/
def ixN (n : Nat) (i : Int) : Option Nat := if 0 ≤ i then (if i < n then some i.toNat else none) else if -(n : Int) ≤ i then some (i + n).toNat else none
def atI {α : Type} (xs : List α) (i : Int) : Option α := (ixN xs.length i).bind fun j => xs[j]?
theorem ixN_seq {n : Nat} {i : Int} {j : Nat} (h : ixN n i = some j) : seqIndex? i n = some j ∧ j < n ∧ -(n : Int) ≤ i ∧ i < n := by
  unfold ixN at h
  by_cases h0 : 0 ≤ i
  · rw [if_pos h0] at h
    by_cases h1 : i < n
    · rw [if_pos h1] at h
      have e : i.toNat = j := Option.some.inj h
      exact ⟨by rw [seqIndex_of h0 h1, e], by omega, by omega, h1⟩
    · rw [if_neg h1] at h; cases h
  · rw [if_neg h0] at h
    by_cases h1 : -(n : Int) ≤ i
    · rw [if_pos h1] at h
      have e : (i + n).toNat = j := Option.some.inj h
      exact ⟨by rw [seqIndex_neg (by omega) h1, e], by omega, h1, by omega⟩
    · rw [if_neg h1] at h; cases h
theorem atI_get {α : Type} {xs : List α} {i : Int} {v : α} (h : atI xs i = some v) : ∃ j, seqIndex? i xs.length = some j ∧ xs[j]? = some v ∧ j < xs.length ∧ -(xs.length : Int) ≤ i ∧ i < xs.length := by
  unfold atI at h
  cases e : ixN xs.length i with
  | none => rw [e] at h; cases h
  | some j =>
    rw [e] at h
    obtain ⟨h1, h2, h3, h4⟩ := ixN_seq e
    exact ⟨j, h1, h, h2, h3, h4⟩
theorem atI_nat {α : Type} {xs : List α} {j : Nat} {v : α} (h : xs[j]? = some v) : atI xs (j : Int) = some v := by
  have hj : j < xs.length := (List.getElem?_eq_some_iff.mp h).1
  have e : ixN xs.length (j : Int) = some j := by
    unfold ixN
    rw [if_pos (by omega), if_pos (by omega)]; simp
  unfold atI; rw [e]; exact h
/-! ### what may be subscripted -/
/-- what stands as an index of a plain subscript -/
def PlainIx (b : Expr) : Prop := ∀ o i, subscripted b false o i = operate [o, i] (getItem o i)
/-- a subscript by values -/
def IxR (X : Cx) (r : R2) : Prop :=
  ∀ (value slice : Expr) (pins : List (Addr × Obj)) (s : Shared) (σ : St) (H : Hp) (x y : V) (v u : Value) (Q : VK), Inv X pins σ H s → RelV x v → RelV y u → r x y H Q →
    subscripted slice false v u = operate [v, u] (getItem v u) → wpAny (model X.prog X.w) X.A (subscriptTail value slice v u) (EP X pins σ Q) X.xe s
/-- a call of a builtin's method by values: the receiver, the arguments -/
def MtR (X : Cx) (id : String) (r : V → List V → Hp → VK → Prop) : Prop :=
  ∀ (pins : List (Addr × Obj)) (s : Shared) (σ : St) (H : Hp) (x : V) (xs : List V) (v : Value) (us : List Value) (Q : VK), Inv X pins σ H s → RelV x v → Vals xs us → r x xs H Q →
    wpAny (model X.prog X.w) X.A (call (.builtin id) (v :: us)) (EP X pins σ Q) X.xe s
section
variable {X : Cx} {a b : Expr} {ta tb : TE} {pos : Pos}
theorem IxR.or {r r' : R2} (h : IxR X r) (h' : IxR X r') : IxR X (fun x y H Q => r x y H Q ∨ r' x y H Q) := by
  intro value slice pins s σ H x y v u Q I rx ry q hs
  rcases q with q | q
  · exact h value slice pins s σ H x y v u Q I rx ry q hs
  · exact h' value slice pins s σ H x y v u Q I rx ry q hs
theorem MtR.or {id : String} {r r' : V → List V → Hp → VK → Prop} (h : MtR X id r) (h' : MtR X id r') : MtR X id (fun x xs H Q => r x xs H Q ∨ r' x xs H Q) := by
  intro pins s σ H x xs v us Q I rx rs q
  rcases q with q | q
  · exact h pins s σ H x xs v us Q I rx rs q
  · exact h' pins s σ H x xs v us Q I rx rs q
/-- a[b] -/
theorem pe_ix {r : R2} (hr : IxR X r) (ha : PE X a ta) (hb : PE X b tb) (hs : PlainIx b) : PE X (.Subscript a b pos) (tOp r ta tb) := by
  intro pins s σ H Q I h
  exact Subscript_ (binT ha hb I h fun v u s2 x y H2 I2 rx ry q => hr a b pins s2 σ H2 x y v u Q I2 rx ry q (hs _ _))

def rIxL (K : PySem.W.Frag) : R2 := fun x y H Q => ∃ p xs i v, x = .ref p ∧ y = .int i ∧ SqL K H p xs ∧ atI xs i = some v ∧ Q v H
def rIxT (K : PySem.W.Frag) : R2 := fun x y H Q => ∃ p xs i v, x = .ref p ∧ y = .int i ∧ SqT K H p xs ∧ atI xs i = some v ∧ Q v H
def rIxS : R2 := fun x y H Q => ∃ z i c, x = .str z ∧ y = .int i ∧ z.length ≤ sizeLine ∧ atI z.cps.toList i = some c ∧ Q (.str ⟨#[c]⟩) H
theorem ix_list : IxR X (rIxL X.K) := by
  intro value slice pins s σ H x y v u Q I rx ry h hs
  obtain ⟨p, xs, i, z, rfl, rfl, hq, he, q⟩ := h
  cases rx
  obtain ⟨t, rfl⟩ := ry
  obtain ⟨its, r, pl, hz⟩ := I.list hq
  obtain ⟨j, h1, h2, h3, h4, h5⟩ := atI_get he
  obtain ⟨w, ew, rw'⟩ := r.get h2
  have hl := r.length
  have hn := line63
  have fin : EP X pins σ Q w s := ⟨z, H, I, rw', q⟩
  by_cases h0 : 0 ≤ i
  · have hj : i.toNat = j := by
      rw [seqIndex_of h0 h5] at h1
      exact Option.some.inj h1
    exact item_listR pl.isList h0 (by omega) (by rw [hj]; simpa using ew) fin hs
  · have hj : (i + (its.toArray.size : Int)).toNat = j := by
      rw [seqIndex_neg (by omega) h4] at h1
      rw [List.size_toArray, ← hl]
      exact Option.some.inj h1
    exact subscriptTail_builtinR (x := w) pl.isList.typeIs slot_list_getitem.lookup
      (wpAny_getItem_list_neg (Q := fun r s' => r = w ∧ EP X pins σ Q r s') pl.isList (by omega) (by rw [List.size_toArray] <;> omega) (by omega) (by rw [hj]; simpa using ew) ⟨rfl, fin⟩) hs
theorem ix_tup : IxR X (rIxT X.K) := by
  intro value slice pins s σ H x y v u Q I rx ry h hs
  obtain ⟨p, xs, i, z, rfl, rfl, hq, he, q⟩ := h
  cases rx
  obtain ⟨t, rfl⟩ := ry
  obtain ⟨its, r, pl, hz⟩ := I.tuple hq
  obtain ⟨j, h1, h2, h3, h4, h5⟩ := atI_get he
  obtain ⟨w, ew, rw'⟩ := r.get h2
  have hl := r.length
  have hn := line63
  have fin : EP X pins σ Q w s := ⟨z, H, I, rw', q⟩
  exact subscriptTail_builtinR (x := w) pl.typeIs slot_tuple_getitem.lookup
    (getItem_tuple (j := j) (Q := fun r s' => r = w ∧ EP X pins σ Q r s') pl (by omega) (by omega) (by rw [List.size_toArray, ← hl]; exact h1) (by simpa using ew) ⟨rfl, fin⟩) hs
theorem ix_str : IxR X rIxS := by
  intro value slice pins s σ H x y v u Q I rx ry h hs
  obtain ⟨z, i, c, rfl, rfl, hz, he, q⟩ := h
  obtain ⟨t, rfl⟩ := rx
  obtain ⟨t', rfl⟩ := ry
  obtain ⟨j, h1, h2, h3, h4, h5⟩ := atI_get he
  have hl : z.cps.toList.length = z.length := by simp [Str.length]
  rw [hl] at h1 h4 h5
  have hn := line63
  exact tail_any (typeIs_str s z t) slot_str_getitem.lookup (getItem_str (c := c) (by
    have e1 : decide (i < -(2 ^ 63 : Int)) = false := decide_eq_false (by omega)
    have e2 : decide (i ≥ 2 ^ 63) = false := decide_eq_false (by omega)
    rw [e1, e2, Bool.or_false]) (by rw [h1]; simpa using h2) ⟨.str ⟨#[c]⟩, H, I.tok _, ⟨_, rfl⟩, q⟩) hs
/-- list, tuple or str -/
def rIx (K : PySem.W.Frag) : R2 := fun x y H Q => rIxL K x y H Q ∨ rIxT K x y H Q ∨ rIxS x y H Q
theorem ix_seq : IxR X (rIx X.K) := ix_list.or (ix_tup.or ix_str)

/-! ### xs[i] = v, any sign -/
theorem Inv.lst {pins : List (Addr × Obj)} {σ : St} {H : Hp} {s : Shared} {p : Addr} {xs : List V} (I : Inv X pins σ H s) (h : H p = some (.lst xs)) :
    ∃ (its : List Value) (n : Nat), Vals xs its ∧ s.heap.get? p = some { cls := .type "list", data := .seq its.toArray n } ∧ xs.length ≤ sizeLine := by
  obtain ⟨z, its, n, r, e⟩ := I.hok p _ h
  exact ⟨its, n, r, e, z⟩
def rSetL : V → V → V → Hp → (Hp → Prop) → Prop := fun o i v H Q => ∃ p xs k j, o = .ref p ∧ i = .int k ∧ H p = some (.lst xs) ∧ ixN xs.length k = some j ∧ Q (upd H p (.lst (xs.set j v)))
/-! ### slices -/
theorem slice_bounds (lo hi : Option Int) (n : Nat) : (sliceBounds lo hi none n).1 = ((HT.sIx n 0 lo : Nat) : Int) ∧ (sliceBounds lo hi none n).2.1 = ((HT.sIx n n hi : Nat) : Int) ∧ (sliceBounds lo hi none n).2.2 = 1 := by
  refine ⟨?_, ?_, rfl⟩
  · cases lo with
    | none => simp [sliceBounds, HT.sIx]
    | some i =>
      simp only [sliceBounds, HT.sIx, Option.getD_none, show (1 : Int) > 0 by decide, if_true]
      by_cases h : i < 0
      · simp only [h, if_true] <;> omega
      · simp only [h, if_false] <;> omega
  · cases hi with
    | none => simp [sliceBounds, HT.sIx]
    | some i =>
      simp only [sliceBounds, HT.sIx, Option.getD_none, show (1 : Int) > 0 by decide, if_true]
      by_cases h : i < 0
      · simp only [h, if_true] <;> omega
      · simp only [h, if_false] <;> omega
theorem slicePick_cut (its : List Value) (lo hi : Option Int) : slicePick its.toArray lo hi none = ((its.drop (HT.sIx its.length 0 lo)).take (HT.sIx its.length its.length hi - HT.sIx its.length 0 lo)).toArray := by
  obtain ⟨h1, h2, h3⟩ := slice_bounds lo hi its.toArray.size
  unfold slicePick
  rw [h1, h2, h3]
  simp only [sliceRange_one, pick_run, List.size_toArray] <;> rfl
/-- xs[lo:hi] of a list: a new list -/
def rSlL (K : PySem.W.Frag) : V → Option Int → Option Int → Hp → VK → Prop := fun x lo hi H Q => ∃ a xs, x = .ref a ∧ SqL K H a xs ∧ ∀ p, H p = none → Q (.ref p) (upd H p (.lst (cutV xs lo hi)))
theorem sl_list : SlR X (rSlL X.K) := by
  intro pins s σ H x v vl vu lo hi sl Q I rx hs pl pu h
  obtain ⟨a, xs, rfl, hx, q⟩ := h
  cases rx
  obtain ⟨its, r, ht, hz⟩ := I.list hx
  have hlen := r.length
  refine ⟨"list", _, slot_list_getitem.lookup, ht.isList.typeIs, ?_⟩
  refine wpAny_getItem_list_slice ht.isList hs pl pu .none (by simp) ?_ (by rw [List.size_toArray] <;> omega)
  rw [slicePick_cut, ← hlen]
  refine ⟨.ref s.heap.objs.size, _, I.laid (t' := s.toks) (o := .lst (cutV xs lo hi)) (fun b ob q => Heap.get?_push_of_some _ q) (Nat.le_refl _) ?_, rfl, q _ (I.hok.fresh (Nat.le_refl _))⟩
  exact ⟨Nat.le_trans (cutV_length xs lo hi) hz, _, 0, (r.drop (HT.sIx xs.length 0 lo)).take (HT.sIx xs.length xs.length hi - HT.sIx xs.length 0 lo), Heap.get?_push_size _ rfl⟩

/-! ### in, not in: flat items -/
def flatV : V → Bool
  | .non => true
  | .bl _ => true
  | .int _ => true
  | .str _ => true
  | _ => false
/-- == of flat values -/
def eqV : V → V → Bool
  | .non, .non => true
  | .bl a, .bl b => a == b
  | .bl a, .int b => (if a then 1 else 0) == b
  | .int a, .bl b => a == (if b then 1 else 0)
  | .int a, .int b => a == b
  | .str a, .str b => a == b
  | _, _ => false
theorem eqAt_V {A : Around} {s : Shared} {y x : V} {u v : Value} (ry : RelV y u) (rx : RelV x v) (fy : flatV y = true) (fx : flatV x = true) : SeqAt.EqAt A s u v (eqV y x) := by
  cases y with
  | non =>
    cases ry
    cases x with
    | non => cases rx; exact SeqAt.EqAt.same _
    | bl b => cases rx; exact SeqAt.EqAt.none_bool b
    | int b => obtain ⟨t, rfl⟩ := rx; exact SeqAt.EqAt.none_int b t
    | str b => obtain ⟨t, rfl⟩ := rx; exact SeqAt.EqAt.none_str b t
    | _ => exact absurd (show false = true from fx) Bool.false_ne_true
  | bl a =>
    cases ry
    cases x with
    | non => cases rx; exact SeqAt.EqAt.bool_none a
    | bl b => cases rx; exact SeqAt.EqAt.bool_bool a b
    | int b => obtain ⟨t, rfl⟩ := rx; exact SeqAt.EqAt.bool_int a b t
    | str b => obtain ⟨t, rfl⟩ := rx; exact SeqAt.EqAt.bool_str a b t
    | _ => exact absurd (show false = true from fx) Bool.false_ne_true
  | int a =>
    obtain ⟨t', rfl⟩ := ry
    cases x with
    | non => cases rx; exact SeqAt.EqAt.int_none a t'
    | bl b => cases rx; exact SeqAt.EqAt.int_bool a t' b
    | int b => obtain ⟨t, rfl⟩ := rx; exact SeqAt.EqAt.int_int a t' b t
    | str b => obtain ⟨t, rfl⟩ := rx; exact SeqAt.EqAt.int_str a t' b t
    | _ => exact absurd (show false = true from fx) Bool.false_ne_true
  | str a =>
    obtain ⟨t', rfl⟩ := ry
    cases x with
    | non => cases rx; exact SeqAt.EqAt.str_none a t'
    | bl b => cases rx; exact SeqAt.EqAt.str_bool a t' b
    | int b => obtain ⟨t, rfl⟩ := rx; exact SeqAt.EqAt.str_int a t' b t
    | str b => obtain ⟨t, rfl⟩ := rx; exact SeqAt.EqAt.str_str a t' b t
    | _ => exact absurd (show false = true from fx) Bool.false_ne_true
  | _ => exact absurd (show false = true from fy) Bool.false_ne_true
/-- the items' answers, read off the values (a value's own answer does not lean on its token) -/
def eqU (x : V) (u : Value) : Bool := match u with
  | .none => eqV .non x
  | .bool b => eqV (.bl b) x
  | .int i _ => eqV (.int i) x
  | .str z _ => eqV (.str z) x
  | _ => false
theorem eqU_of {x y : V} {u : Value} (r : RelV y u) (f : flatV y = true) : eqU x u = eqV y x := by
  cases y with
  | non => cases r; rfl
  | bl b => cases r; rfl
  | int i => obtain ⟨t, rfl⟩ := r; rfl
  | str z => obtain ⟨t, rfl⟩ := r; rfl
  | _ => exact absurd (show false = true from f) Bool.false_ne_true
theorem any_eqU {x : V} : ∀ {xs : List V} {us : List Value}, Vals xs us → xs.all flatV = true → us.any (eqU x) = xs.any fun y => eqV y x
  | _, _, .nil, _ => rfl
  | y :: xs, u :: us, .cons r t, f => by
    rw [List.all_cons, Bool.and_eq_true] at f
    rw [List.any_cons, List.any_cons, eqU_of r f.1, any_eqU t f.2]
theorem mem_eqAt {A : Around} {s : Shared} {x : V} {v : Value} (rx : RelV x v) (fx : flatV x = true) : ∀ {xs : List V} {us : List Value}, Vals xs us → xs.all flatV = true → ∀ u ∈ us, SeqAt.EqAt A s u v (eqU x u)
  | _, _, .nil, _ => fun u hu => by cases hu
  | y :: xs, u :: us, .cons r t, f => fun u' hu => by
    rw [List.all_cons, Bool.and_eq_true] at f
    rcases List.mem_cons.mp hu with rfl | hu
    · rw [eqU_of r f.1]; exact eqAt_V r rx f.1 fx
    · exact mem_eqAt rx fx t f.2 u' hu
def inV (x : V) (xs : List V) : Bool := xs.any fun y => eqV y x
/-- x in a list or tuple of flat items -/
def rIn (K : PySem.W.Frag) (neg : Bool) : R2 := fun x y H Q => ∃ p xs, y = .ref p ∧ (SqL K H p xs ∨ SqT K H p xs) ∧ flatV x = true ∧ xs.all flatV = true ∧ Q (.bl (if neg then !inV x xs else inV x xs)) H
theorem op_in_seq : OpR X (compareOp .In) (rIn X.K false) := by
  intro pins s σ H x y v u Q I rx ry h
  obtain ⟨p, xs, rfl, hq, fx, fs, q⟩ := h
  cases ry
  rcases hq with hq | hq
  · obtain ⟨its, r, pl, hz⟩ := I.list hq
    refine SeqAt.in_listAt (eqU x) pl.isList (fun w hw => mem_eqAt rx fx r fs w (by simpa using hw)) ⟨.bl _, H, I, rfl, ?_⟩
    rw [show its.toArray.any (eqU x) = its.any (eqU x) by simp, any_eqU r fs]
    exact q
  · obtain ⟨its, r, pl, hz⟩ := I.tuple hq
    refine SeqAt.in_tupleAt (eqU x) pl (fun w hw => mem_eqAt rx fx r fs w (by simpa using hw)) ⟨.bl _, H, I, rfl, ?_⟩
    rw [show its.toArray.any (eqU x) = its.any (eqU x) by simp, any_eqU r fs]
    exact q
theorem op_notIn_seq : OpR X (compareOp .NotIn) (rIn X.K true) := by
  intro pins s σ H x y v u Q I rx ry h
  obtain ⟨p, xs, rfl, hq, fx, fs, q⟩ := h
  cases ry
  rcases hq with hq | hq
  · obtain ⟨its, r, pl, hz⟩ := I.list hq
    refine SeqAt.notIn_listAt (eqU x) pl.isList (fun w hw => mem_eqAt rx fx r fs w (by simpa using hw)) ⟨.bl _, H, I, rfl, ?_⟩
    rw [show its.toArray.any (eqU x) = its.any (eqU x) by simp, any_eqU r fs]
    exact q
  · obtain ⟨its, r, pl, hz⟩ := I.tuple hq
    refine SeqAt.notIn_tupleAt (eqU x) pl (fun w hw => mem_eqAt rx fx r fs w (by simpa using hw)) ⟨.bl _, H, I, rfl, ?_⟩
    rw [show its.toArray.any (eqU x) = its.any (eqU x) by simp, any_eqU r fs]
    exact q
/-! ### len, list(x), tuple(x) of any list or tuple that is read -/
theorem CallR.or {f : Value} {r r' : List V → Hp → VK → Prop} (h : CallR X f r) (h' : CallR X f r') : CallR X f (fun xs H Q => r xs H Q ∨ r' xs H Q) := by
  intro pins s σ H xs us Q I rs q
  rcases q with q | q
  · exact h pins s σ H xs us Q I rs q
  · exact h' pins s σ H xs us Q I rs q
theorem call_tuple_of : CallR X (.type "tuple") (fun xs H Q => ∃ p ys, xs = [.ref p] ∧ ((SqL X.K H p ys ∧ ∀ l, H l = none → Q (.ref l) (upd H l (.tup ys))) ∨ (SqT X.K H p ys ∧ Q (.ref p) H))) := by
  intro pins s σ H xs us Q I r h
  obtain ⟨p, ys, rfl, h⟩ := h
  obtain ⟨u, rfl, rx⟩ := vals1 r
  cases rx
  rcases h with ⟨hq, q⟩ | ⟨hq, q⟩
  · obtain ⟨its, r', pl, hz⟩ := I.list hq
    have hlen := r'.length
    refine call_tuple_list pl.isList (fun h' kp => ?_) (by simp only [List.size_toArray] <;> omega)
    have I1 : Inv X pins σ H { s with heap := h' } := I.kept (t' := s.toks) kp
    have I2 : Inv X pins σ (upd H h'.objs.size (.tup ys)) { s with heap := h'.push { cls := .type "tuple", data := .seq its.toArray } } :=
      I1.laid (t' := s.toks) (fun b o e => Heap.get?_push_of_some _ e) (Nat.le_refl _) (show ObjOk X.prog X.w _ _ _ (.tup ys) from ⟨hz, its, r', IsTup.new _ _⟩)
    exact ⟨.ref h'.objs.size, _, I2, rfl, q _ (I1.hok.fresh (Nat.le_refl _))⟩
  · obtain ⟨its, r', pl, hz⟩ := I.tuple hq
    exact call_tuple_same pl ⟨.ref p, H, I, rfl, q⟩

/-! ### the call of a builtin's method: o.m(..) -/
/-- the value is of that builtin type -/
def tyV (K : PySem.W.Frag) (T : String) (x : V) (H : Hp) : Prop := match x with
  | .str _ => T = "str"
  | .int _ => T = "int"
  | .ref p => (T = "list" ∧ ∃ xs, SqL K H p xs) ∨ (T = "tuple" ∧ ∃ o, K.lookup p = some o ∧ o.cls = .type "tuple" ∧ o.dict = none) ∨
      (T = "dict" ∧ ((∃ kvs, H p = some (.dK kvs)) ∨ ∃ kvs, H p = some (.dT kvs))) ∨ (T = "set" ∧ ∃ S n, H p = some (.set S n))
  | _ => False
theorem tyV_is {pins : List (Addr × Obj)} {σ : St} {H : Hp} {s : Shared} {T : String} {x : V} {v : Value} (I : Inv X pins σ H s) (r : RelV x v) (ty : tyV X.K T x H) :
    s.TypeIs v T ∧ ∀ a, v = .ref a → ∃ ob, s.heap.get? a = some ob ∧ ob.dict = none := by
  cases x with
  | str z =>
    obtain ⟨t, rfl⟩ := r
    cases (show T = "str" from ty)
    exact ⟨typeIs_str s z t, fun _ e => nomatch e⟩
  | int i =>
    obtain ⟨t, rfl⟩ := r
    cases (show T = "int" from ty)
    exact ⟨typeIs_int s i t, fun _ e => nomatch e⟩
  | ref p =>
    cases r
    rcases ty with ⟨rfl, xs, hq⟩ | ⟨rfl, o, hk, hc, hd⟩ | ⟨rfl, hk⟩ | ⟨rfl, S, n, hk⟩
    · obtain ⟨its, _, pl, _⟩ := I.list hq
      refine ⟨pl.isList.typeIs, fun a e => ?_⟩
      cases e
      obtain ⟨o, n, e, c, hd, _⟩ := pl
      exact ⟨o, e, hd⟩
    · refine ⟨⟨o, I.kIn p o hk, hc⟩, fun a e => ?_⟩
      cases e
      exact ⟨o, I.kIn _ o hk, hd⟩
    · have z : ∃ o, s.heap.get? p = some o ∧ o.ExactDict := by
        rcases hk with ⟨kvs, hk⟩ | ⟨kvs, hk⟩
        · obtain ⟨_, _, _, _, o, _, _, e, ex, _⟩ := I.hok p _ hk
          exact ⟨o, e, ex⟩
        · obtain ⟨_, _, _, _, o, _, _, e, ex, _⟩ := I.hok p _ hk
          exact ⟨o, e, ex⟩
      obtain ⟨o, e, ex⟩ := z
      refine ⟨⟨o, e, ex.1⟩, fun a e2 => ?_⟩
      cases e2
      exact ⟨o, e, ex.2.1⟩
    · obtain ⟨o, _, _, _, e, ex, _⟩ := I.hok p _ hk
      refine ⟨⟨o, e, ex.1⟩, fun a e2 => ?_⟩
      cases e2
      exact ⟨o, e, ex.2.1⟩
  | _ => exact False.elim ty
def tBM0 (K : PySem.W.Frag) (T : String) (r : V → List V → Hp → VK → Prop) (to : TE) : TE := fun σ H Q => to σ H fun x H1 => tyV K T x H1 ∧ r x [] H1 Q
def tBM (K : PySem.W.Frag) (T : String) (r : V → List V → Hp → VK → Prop) (to : TE) (t : TA) : TE := fun σ H Q => to σ H fun x H1 => tyV K T x H1 ∧ t σ H1 fun xs H2 => r x xs H2 Q
variable {o e : Expr} {es : List Expr} {to : TE} {t : TA} {name : Str} {apos cpos : Pos} {T id : String} {r : V → List V → Hp → VK → Prop}
theorem pe_bm0 (pa : PlainAttrs T) (slot : Slot T name id) (hty : typeOf (.builtin id) = pure (.type "method_descriptor")) (hm : MtR X id r) (ho : PE X o to)
    (hbase : attributeBase o name X.env (eval o X.env) = eval o X.env := by rfl) (hline : (apos.endLine == cpos.line) = true := by rfl) : PE X (.Call (.Attribute o name apos) [] [] cpos) (tBM0 X.K T r to) := by
  intro pins s σ H Q I h
  refine wpAny_Call_method0_late hbase hline (thn (ho pins s σ H _ I h) fun v s1 ⟨x, H1, I1, r1, ty, q1⟩ => ?_)
  obtain ⟨h1, h2⟩ := tyV_is I1 r1 ty
  exact ⟨T, id, pa, slot, hty, h1, h2, Calls.callWith_builtin rfl (PySem.evalArgs_none (hm pins s1 σ H1 x [] v [] Q I1 r1 .nil q1))⟩
theorem pe_bm (pa : PlainAttrs T) (slot : Slot T name id) (hty : typeOf (.builtin id) = pure (.type "method_descriptor")) (hm : MtR X id r) (ho : PE X o to) (ha : PA X (e :: es) t)
    (hbase : attributeBase o name X.env (eval o X.env) = eval o X.env := by rfl)
    (hfew : ((backTo cpos (starEach (e :: es) X.env)).all (fun x => !x.1) && (backToKw cpos (keywordEach [] X.env)).all (fun x => x.1.isSome)
      && decide ((e :: es).length + ([] : List Keyword).length + (if ([] : List Keyword).isEmpty then 0 else 1) < 30)) = true := by rfl)
    (hline : (apos.endLine == cpos.line) = true := by rfl) (hs : starEach (e :: es) X.env = (false, eval e X.env) :: starEach es X.env := by rfl) (hplain : (backTo cpos (starEach es X.env)).any (·.1) = false := by rfl) :
    PE X (.Call (.Attribute o name apos) (e :: es) [] cpos) (tBM X.K T r to t) := by
  intro pins s σ H Q I h
  refine wpAny_Call_method_late hbase hfew hline rfl (thn (ho pins s σ H _ I h) fun v s1 ⟨x, H1, I1, r1, ty, q1⟩ => ?_)
  obtain ⟨h1, h2⟩ := tyV_is I1 r1 ty
  refine ⟨T, id, pa, slot, hty, h1, h2, ?_⟩
  have hA := ha cpos pins s1 σ H1 _ I1 q1
  rw [hs] at hA ⊢
  refine Calls.callWith_builtin (by show (false || (backTo cpos (starEach es X.env)).any (·.1)) = false; rw [hplain] <;> rfl) (Calls.evalArgs_plain ?_)
  exact thn hA fun us s2 ⟨vs, H2, I2, r2, q2⟩ => hm pins s2 σ H2 x vs v us Q I2 r1 r2 q2
/- xs.append(e), list.index on a module's tuple .. are MtR facts of 06m -/
end
end L2

namespace L2
open PySem PySem.Spec PyProof.Rows

def MtM (X : Cx) (id : String) (r : V → List V → Hp → VK → Prop) : Prop :=
  ∀ (pins : List (Addr × Obj)) (s : Shared) (σ : St) (H : Hp) (x : V) (xs : List V) (v : Value) (us : List Value) (Q : VK), Inv X pins σ H s → RelV x v → Vals xs us → r x xs H Q →
    wpAny (model X.prog X.w) X.A (call (.builtin id) (v :: us)) (EP X pins σ Q) X.xe s

/-! ### lists of values -/
theorem Vals.one : ∀ {x : V} {us : List Value}, Vals [x] us → ∃ u, us = [u] ∧ RelV x u
  | _, _, .cons r .nil => ⟨_, rfl, r⟩
theorem Vals.two : ∀ {x y : V} {us : List Value}, Vals [x, y] us → ∃ u v, us = [u, v] ∧ RelV x u ∧ RelV y v
  | _, _, _, .cons r (.cons q .nil) => ⟨_, _, rfl, r, q⟩
theorem Vals.zero : ∀ {us : List Value}, Vals [] us → us = []
  | _, .nil => rfl
theorem Vals.dropLast {xs : List V} {us : List Value} (h : Vals xs us) : Vals xs.dropLast us.dropLast := by
  induction h with
  | nil => exact .nil
  | cons r t ih =>
    cases t with
    | nil => exact .nil
    | cons q t' => exact .cons r ih
theorem Vals.eraseIdx : ∀ {xs : List V} {us : List Value} (i : Nat), Vals xs us → Vals (xs.eraseIdx i) (us.eraseIdx i)
  | _, _, _, .nil => .nil
  | _, _, 0, .cons _ t => t
  | _, _, i + 1, .cons r t => .cons r (Vals.eraseIdx i t)
theorem Vals.reverse {xs : List V} {us : List Value} (h : Vals xs us) : Vals xs.reverse us.reverse := by
  induction h with
  | nil => exact .nil
  | cons r t ih => rw [List.reverse_cons, List.reverse_cons]; exact Vals.append ih (.cons r .nil)
theorem Vals.rep {xs : List V} {us : List Value} (h : Vals xs us) : ∀ k : Nat, Vals (List.replicate k xs).flatten (List.replicate k us).flatten
  | 0 => .nil
  | k + 1 => by
    rw [List.replicate_succ, List.replicate_succ, List.flatten_cons, List.flatten_cons]
    exact Vals.append h (Vals.rep h k)
theorem foldl_rep (its : List Value) : ∀ (k : Nat) (acc : List Value),
    List.foldl (fun x1 x2 => x1 ++ x2) acc.toArray (List.replicate k its.toArray) = (acc ++ (List.replicate k its).flatten).toArray
  | 0, acc => by simp
  | k + 1, acc => by
    have e : acc.toArray ++ its.toArray = (acc ++ its).toArray := by simp
    have e2 : (acc ++ its) ++ (List.replicate k its).flatten = acc ++ (List.replicate (k + 1) its).flatten := by
      rw [List.replicate_succ, List.flatten_cons, List.append_assoc]
    rw [← e2, ← foldl_rep its k (acc ++ its), ← e, List.replicate_succ, List.foldl_cons]

section
variable {X : Cx} {pins : List (Addr × Obj)} {σ : St} {H : Hp} {s : Shared} {l b : Addr} {xs ys zs : List V}

/-! ### the two steps: a tracked list is rewritten, a new list is laid -/
theorem Inv.lset {its its' : List Value} {n : Nat} {f : Array Value → Array Value} {t' : Nat} (I : Inv X pins σ H s) (hH : H l = some (.lst xs))
    (e : s.heap.get? l = some { cls := .type "list", data := .seq its.toArray n }) (hf : f its.toArray = its'.toArray) (hv : Vals ys its') (hz : ys.length ≤ sizeLine) :
    Inv X pins σ (upd H l (.lst ys)) { s with heap := s.heap.update l (Obj.mapSeq f), toks := t' } := by
  have q := PySem.IsL.update e f
  rw [hf] at q
  refine I.write (x := l) (e := l) (by rw [hH]; exact trivial) (.inl rfl) (fun b' u hb hu => (Heap.get?_update_other s.heap (Obj.mapSeq f) (Ne.symm hb)).trans hu) ⟨_, q⟩ ?_
  exact ⟨hz, its', _, hv, q⟩
theorem Inv.lnew {its : List Value} {t' : Nat} (I : Inv X pins σ H s) (hv : Vals ys its) (hz : ys.length ≤ sizeLine) :
    Inv X pins σ (upd H s.heap.objs.size (.lst ys)) { s with heap := s.heap.push { cls := .type "list", data := .seq its.toArray }, toks := t' } :=
  I.laid (fun _ _ q => Heap.get?_push_of_some _ q) (Nat.le_refl _) ⟨hz, its, 0, hv, Heap.get?_push_size _ rfl⟩
theorem Inv.fresh (I : Inv X pins σ H s) : H s.heap.objs.size = none := I.hok.fresh (Nat.le_refl _)
theorem Inv.lstM (I : Inv X pins σ H s) (hH : H l = some (.lst xs)) : xs.length ≤ sizeLine ∧ ∃ (its : List Value) (n : Nat), Vals xs its ∧ xs.length = its.length ∧ s.heap.get? l = some { cls := .type "list", data := .seq its.toArray n } := by
  obtain ⟨z, its, n, r, e⟩ := I.hok l _ hH
  exact ⟨z, its, n, r, r.length, e⟩

theorem notLongL {n : Nat} (h : n ≤ sizeLine) : Builtin.List.listTooLong n = false := by
  unfold Builtin.List.listTooLong
  exact decide_eq_false (by omega)
end

section
variable {X : Cx}

/-! ### methods -/
def rAppend : V → List V → Hp → VK → Prop := fun x vs H Q => ∃ l xs y, x = .ref l ∧ vs = [y] ∧ H l = some (.lst xs) ∧ xs.length < sizeLine ∧ Q .non (upd H l (.lst (xs ++ [y])))
theorem mt_append : MtM X "list.append" rAppend := by
  intro pins s σ H x vs v us Q I rx rv h
  obtain ⟨l, xs, y, rfl, rfl, hH, hz, q⟩ := h
  cases rx
  obtain ⟨u, rfl, ru⟩ := rv.one
  obtain ⟨z, its, n, r, hl, e⟩ := I.lstM hH
  refine call_meets F.slot_list_append ⟨_, e, rfl⟩ F.entry_list_append (F.args_list_append_2 _ _) (PySem.list_append l its.toArray n u (by rw [List.size_toArray]; omega)) ⟨e, ?_⟩
  refine ⟨.non, _, I.lset (its' := its ++ [u]) hH e (by simp) (r.append (.cons ru .nil)) ?_, rfl, q⟩
  rw [List.length_append, List.length_singleton]
  omega

def rExtend : V → List V → Hp → VK → Prop := fun x vs H Q => ∃ l b xs zs, x = .ref l ∧ vs = [.ref b] ∧ H l = some (.lst xs) ∧ H b = some (.lst zs) ∧ xs.length + zs.length ≤ sizeLine ∧ Q .non (upd H l (.lst (xs ++ zs)))
theorem mt_extend : MtM X "list.extend" rExtend := by
  intro pins s σ H x vs v us Q I rx rv h
  obtain ⟨l, b, xs, zs, rfl, rfl, hH, hB, hz, q⟩ := h
  cases rx
  obtain ⟨u, rfl, ru⟩ := rv.one
  cases ru
  obtain ⟨z, its, n, r, hl, e⟩ := I.lstM hH
  obtain ⟨z2, its2, n2, r2, hl2, e2⟩ := I.lstM hB
  have hsz : its.toArray.size + its2.toArray.size ≤ sizeLine := by rw [List.size_toArray, List.size_toArray]; omega
  have hlong : ¬ (!its.toArray.isEmpty && Builtin.List.listTooLong (its.toArray.size + its2.toArray.size)) = true := by
    rw [notLongL hsz, Bool.and_false]
    exact Bool.false_ne_true
  refine call_meets F.slot_list_extend ⟨_, e, rfl⟩ F.entry_list_extend (F.args_list_extend_2 _ _)
    (AutoSeq1.list_extend_list_list_0 l its.toArray n b its2.toArray n2 hlong (by rw [List.size_toArray]; omega) (by omega)) ⟨e, e2, ?_⟩
  refine ⟨.non, _, I.lset (its' := its ++ its2) hH e (by simp) (r.append r2) ?_, rfl, q⟩
  rw [List.length_append]
  omega

def rPop : V → List V → Hp → VK → Prop := fun x vs H Q => ∃ l xs y, x = .ref l ∧ vs = [] ∧ H l = some (.lst xs) ∧ xs[xs.length - 1]? = some y ∧ Q y (upd H l (.lst xs.dropLast))
def rPopAt : V → List V → Hp → VK → Prop := fun x vs H Q => ∃ l xs i k y, x = .ref l ∧ vs = [.int i] ∧ H l = some (.lst xs) ∧ -(2 ^ 63) ≤ i ∧ i < 2 ^ 63 ∧ seqIndex? i xs.length = some k ∧ xs[k]? = some y ∧ Q y (upd H l (.lst (xs.eraseIdx k)))
def rReverse : V → List V → Hp → VK → Prop := fun x vs H Q => ∃ l xs, x = .ref l ∧ vs = [] ∧ H l = some (.lst xs) ∧ Q .non (upd H l (.lst xs.reverse))
def rClear : V → List V → Hp → VK → Prop := fun x vs H Q => ∃ l xs, x = .ref l ∧ vs = [] ∧ H l = some (.lst xs) ∧ Q .non (upd H l (.lst []))
/-! ### list + list, list += list, list * int -/
def rCat : R2 := fun x y H Q => ∃ l b xs zs, x = .ref l ∧ y = .ref b ∧ H l = some (.lst xs) ∧ H b = some (.lst zs) ∧ xs.length + zs.length ≤ sizeLine ∧ ∀ p, H p = none → Q (.ref p) (upd H p (.lst (xs ++ zs)))
theorem op_cat : OpR X (binaryOp .Add) rCat := by
  intro pins s σ H x y v u Q I rx ry h
  obtain ⟨l, b, xs, zs, rfl, rfl, hH, hB, hz, q⟩ := h
  cases rx
  cases ry
  obtain ⟨z, its, n, r, hl, e⟩ := I.lstM hH
  obtain ⟨z2, its2, n2, r2, hl2, e2⟩ := I.lstM hB
  refine PySem.P.add_list e e2 ?_ (by rw [List.size_toArray, List.size_toArray]; omega)
  have ea : its.toArray ++ its2.toArray = (its ++ its2).toArray := by simp
  rw [ea]
  exact ⟨.ref _, _, I.lnew (t' := s.toks) (r.append r2) (by rw [List.length_append]; omega), rfl, q _ I.fresh⟩
/-- a list times an int (a negative one is nothing) -/
def rRep : R2 := fun x y H Q => ∃ l k xs, x = .ref l ∧ y = .int k ∧ H l = some (.lst xs) ∧ -(2 ^ 63) ≤ k ∧ k < 2 ^ 63 ∧ xs.length * k.toNat ≤ sizeLine ∧
  ∀ p, H p = none → Q (.ref p) (upd H p (.lst (List.replicate k.toNat xs).flatten))
theorem len_rep {α : Type} (xs : List α) (k : Nat) : (List.replicate k xs).flatten.length = k * xs.length := by
  induction k with
  | zero => simp
  | succ k ih => rw [List.replicate_succ, List.flatten_cons, List.length_append, ih, Nat.succ_mul, Nat.add_comm]
theorem op_rep : OpR X (binaryOp .Mult) rRep := by
  intro pins s σ H x y v u Q I rx ry h
  obtain ⟨l, k, xs, rfl, rfl, hH, h1, h2, hz, q⟩ := h
  cases rx
  obtain ⟨t, rfl⟩ := ry
  obtain ⟨z, its, n, r, hl, e⟩ := I.lstM hH
  have hlen : its.toArray.size * k.toNat ≤ sizeLine := by rw [List.size_toArray, ← hl]; exact hz
  have hcap : ¬ its.toArray.size * k.toNat > (2 ^ 63 - 1) / 8 := by
    have : (sizeLine : Nat) ≤ (2 ^ 63 - 1) / 8 := by decide
    omega
  have hfit : ¬ (!Builtin.List.listFitsIndex k) = true := by
    rw [fitsIndex_both h1 h2]
    exact Bool.false_ne_true
  have hlong : ¬ Builtin.List.listTooLong (its.toArray.size * k.toNat) = true := by
    rw [notLongL hlen]
    exact Bool.false_ne_true
  have hnew : List.foldl (fun x1 x2 => x1 ++ x2) #[] (List.replicate (if its.toArray.isEmpty = true then 0 else k.toNat) its.toArray) = (List.replicate k.toNat its).flatten.toArray := by
    have f0 : ∀ m : Nat, List.foldl (fun x1 x2 => x1 ++ x2) #[] (List.replicate m its.toArray) = (List.replicate m its).flatten.toArray := fun m => by
      have := foldl_rep its m []
      rw [List.nil_append] at this
      exact this
    rw [f0]
    cases its with
    | nil => simp
    | cons a r' => rw [if_neg (by simp)]
  refine wpAny_binaryOp_repeat_ref (T := "list") (U := "int") (by decide) ⟨_, e, rfl⟩ (fun s' => typeIs_int s' k t) noFill_list_mul F.fills_int_mul F.slot_int_rmul repeat_list F.slot_int_index.lookup
    (call_meets F.slot_int_rmul (typeIs_int s k t) F.entry_int_rmul (F.args_int_rmul_2 _ _) (int___rmul___int_list k t l its.toArray n)
      ⟨e, rfl, ⟨_, e, rfl⟩, call_meets F.slot_list_mul ⟨_, e, rfl⟩ F.entry_list_mul (F.args_list_mul_2 _ _) (AutoListH.list___mul___list_int_3 l its.toArray n k t hfit hcap hlong) ⟨e, ?_⟩⟩)
  rw [hnew]
  exact ⟨.ref _, _, I.lnew (t' := s.toks) (r.rep k.toNat) (by rw [len_rep, Nat.mul_comm]; exact hz), rfl, q _ I.fresh⟩

/-! ### del xs[i] -/
end

/-! ### xs[a:b] = ys -/
section
variable {prog : Program} {w : World} {A : Around} {E : Value → Shared → Prop} {s : Shared}
end

section
variable {X : Cx}
end
end L2

namespace Att
open PySem PySem.W PySem.Calls PyProof.Rows

/-! ### the script -/
theorem ints_of_wellAll {P : Params} {h : Heap} : ∀ (ns : List Int) (vs : List Value), WellAll P h vs (ns.map WData.int) → IntsAre vs ns := by
  intro ns
  induction ns with
  | nil =>
    intro vs w
    rw [List.map_nil] at w
    cases w
    exact .nil
  | cons n ns ih =>
    intro vs w
    rw [List.map_cons] at w
    cases w with
    | cons a b =>
      cases a
      exact .cons _ _ (ih _ b)

theorem script_of {l : OpenLaw} {n : Nat} (hn : l.most = some n) {P : Params} {h : Heap} {args : List WData} {vals : List Value}
    (hpre : l.row.toRowW.claim.pre args = true) (hwl : WellAll P h vals args) :
    ∃ a vs ns, vals = [Value.ref a] ∧ args = [WData.list (ns.map WData.int)] ∧ h.get? a = some { cls := .type "list", data := .seq vs.toArray } ∧ IntsAre vs ns ∧ ns.length ≤ n := by
  have hsh : WShape.hasAll [] args [.list .int] = true := (pre_splitW hpre).1
  have hc : l.pre.holds [] { args := args } = true := (pre_splitW hpre).2
  obtain ⟨d, r, rfl, h1, h2⟩ := hasAllW_cons hsh
  obtain rfl := hasAllW_nil h2
  obtain ⟨xs, rfl, h3⟩ := hasW_list h1
  obtain ⟨ns, rfl⟩ := items_int h3
  have hlen : ns.length ≤ n := by
    unfold OpenLaw.pre at hc
    have h4 : (WTm.not (.lt (.lit (.int (n : Int))) (.len (.arg 0)))).holds [] { args := [.list (ns.map .int)] } = true := by
      have h4 := (holds_andW hc).1
      rw [hn] at h4
      exact h4
    have h5 := condW_of h4 (w_not (w_lt w_lit (w_len_list (w_arg rfl))))
    rw [List.length_map] at h5
    refine Nat.le_of_not_lt fun q => ?_
    have q' : (n : Int) < ((ns.length : Nat) : Int) := by omega
    first
      | (rw [decide_eq_true q'] at h5; exact absurd h5 (by decide))
      | (simp at h5; omega)
  cases hwl with
  | cons w1 w2 =>
    cases w2
    cases w1 with
    | list ho hall => exact ⟨_, _, ns, rfl, rfl, ho, ints_of_wellAll ns _ hall, hlen⟩

theorem post_true (l : OpenLaw) (args : List WData) : l.row.toRowW.claim.post args (.bool true) args = true :=
  postW_of (r := l.row.toRowW) (X := (true == true))
    (show WShape.has [] (.bool true) .bool = true by first | rfl | decide | simp [WShape.has, WShape.arms, WShape.armsAll])
    (show (WTm.eq .res (.lit (.bool true))).value [] { args := args, res := some (.bool true), after := args } = some (.bool (true == true)) from w_eq_bool (w_res rfl) w_lit) rfl

/-! ### the attachment: holds_open's last premise (the goal 'hc' behind k_head) from a wpAny of the law's body -/
/-- the same from a codeAny of the CALL (for a layer whose function contracts speak of calls) -/
theorem attach_call {l : OpenLaw} {n : Nat} {q : Program} {loose : List Str} {XP : (Str → Option Value) → Heap → Prop} {YP : World → Heap → Prop} {d : DefRec}
    (hn : l.most = some n) (hdf : d.params.defaults = [])
    (call : ∀ (w : World) (s₀ s₁ : Shared) (mg mb : Str → Option Value) (fa : Addr) (o : Obj) (pm cd doc : Value) (a : Addr) (vs : List Value) (ns : List Int),
      Ground q loose [] XP w s₀ mg mb s₁.heap → YP w s₁.heap →
      s₁.heap.get? fa = some o → o.data = .func (docDef d.name d.params d.body d.scope pm cd doc) → s₁.heap.CodeRec cd d.name → mg d.name = some (.ref fa) →
      s₁.heap.get? a = some { cls := .type "list", data := .seq vs.toArray } → IntsAre vs ns → ns.length ≤ n → s₁.gens = #[] →
      codeAny (model l.prog w) callerA (.call (.ref fa) ⟨[.ref a], []⟩) (fun r s' => r = .ok (.ret (.bool true)) ∧ OldK s₁.heap s'.heap ∧ s'.os = s₁.os ∧ AllBare s'.gens) s₁) :
    WalkO q loose XP YP l.row.toRowW d [] (fun f vs => PySem.call f vs) := by
  intro w s₀ s₁ mg mb G Y fa o pm cd doc dV kV ho hd hcd hD hmg hg args vals as hpre hlay hrd hwl hlo
  obtain rfl : dV = .none := Dflts.none hD hdf
  obtain rfl : kV = .none := Dflts.noKw hD
  obtain ⟨a, vs, ns, rfl, rfl, hobj, hints, hlen⟩ := script_of hn hpre hwl
  refine enter_call (codeAny_mono (call w s₀ s₁ mg mb fa o pm cd doc a vs ns G Y ho (fd_plain hd) hcd hmg hobj hints hlen hg) fun r s' hq => ?_)
  obtain ⟨rfl, h2, h3, h4⟩ := hq
  exact ⟨.inl ⟨.bool true, .bool true, [], rfl, fun _ => rfl, .bool true, post_true l _, fun _ => ⟨List.Pairwise.nil, fun _ hm => (nomatch hm)⟩⟩, h2, h3, h4⟩

/-! ### rules over ANY heap (no ledger) from facts about the written part K: the library's own take a ledger (News) for what they write -/
section
variable {prog : Program} {w : World} {A : Around} {E : Value → Shared → Prop} {s : Shared} {K : Frag}

/-! the whole heap as the ledger: makes every rule that writes through a ledger a rule over any heap -/
def noObjs (h : Heap) : Heap := { h with objs := #[] }
def ledger (h : Heap) (L d : Addr) : List (Addr × Obj) := (List.range h.objs.size).filterMap fun a => if a = L ∨ a = d then none else (h.get? a).map fun o => (a, o)
end
end Att

namespace L2
open PySem PySem.Spec PyProof.Rows

theorem vals_ints : ∀ {vs : List Value} {ns : List Int}, IntsAre vs ns → Vals (ns.map V.int) vs
  | _, _, .nil => .nil
  | _, _, .cons n t h => .cons ⟨t, rfl⟩ (vals_ints h)

/-- nothing is tracked but the script, known to the object (or it is an object of the module) -/
def Only (H : Hp) : Prop := ∀ b, H b = none ∨ ∃ o xs, H b = some (.frz o (.lst xs))

/-- THE HEAD: the law's promise, at the heap behind the top. F, the promise of the law's def, may use that base is part of the heap (so K.In base, base.Ns mainGlobals mg stand in Mod) -/
theorem law_call {P : Program} {w : World} {K : PySem.W.Frag} {mg mb : Str → Option Value} {CX : CXT} {k : Nat} {fa a : Addr} {fd : FuncData} {x : Str} {sp : Sp} {s₁ : Shared} {vs : List Value} {ns : List Int}
    (KX : K.In s₁.heap) (hns : s₁.heap.Ns mainGlobals mg) (hb : s₁.heap.Ns builtinsNs mb) (hbb : ∀ x : Str, x ≠ "__name__" → mb x = bootBuiltins x) (hlim : s₁.heap.NoLimit) (hg : s₁.gens = #[])
    (ha : s₁.heap.get? a = some { cls := .type "list", data := .seq vs.toArray }) (hi : IntsAre vs ns) (hl : ns.length ≤ sizeLine) (hr : Room k callerA)
    (F : ∀ base : Heap, K.In base → base.Ns mainGlobals mg → FnOk P w K mg base CX k fa fd [x] sp) (hbind : ∀ (s : Shared) (u : Value), BindsTo s fd ⟨[u], []⟩ [(x, u)])
    (hsp : ∀ H : Hp, Only H → SqL K H a (ns.map V.int) → sp [.ref a] H (fun v _ => v = .bl true) fun _ _ _ => False)
    (hCX : ∀ H e s', CX [] H s₁ (fun _ _ _ => False) e s' → False) :
    codeAny (model P w) callerA (.call (.ref fa) ⟨[.ref a], []⟩) (fun r s' => r = .ok (.ret (.bool true)) ∧ OldK s₁.heap s'.heap ∧ s'.os = s₁.os ∧ AllBare s'.gens) s₁ := by
  have rv := vals_ints hi
  have lenV := hi.length
  -- from an abstract heap in which nothing but the script may be tracked
  have core : ∀ H : Hp, Only H → SqL K H a (ns.map V.int) → HOk P w H s₁.heap → (∀ b, H b ≠ none → b = a) → (H a ≠ none → K.lookup a = none) →
      codeAny (model P w) callerA (.call (.ref fa) ⟨[.ref a], []⟩) (fun r s' => r = .ok (.ret (.bool true)) ∧ OldK s₁.heap s'.heap ∧ s'.os = s₁.os ∧ AllBare s'.gens) s₁ := by
    intro H hO hS hok hA hK
    have base_of : ∀ {b : Addr} {o : Obj}, s₁.heap.get? b = some o → H b = none → (hidT s₁.heap H).get? b = some o := fun e n => hidT_get e n
    have noA : ∀ {b : Addr} {o : Obj} {es : Array DictEntry} {ep : Nat}, s₁.heap.get? b = some o → o.data = .dict es ep → H b = none := fun {b o es ep} e d => by
      cases q : H b with
      | none => rfl
      | some u =>
        have e' : b = a := hA b (by rw [q]; simp)
        subst e'
        rw [ha] at e; cases e
        have d' : Data.seq vs.toArray _ = Data.dict es ep := d
        cases d'
    have nsK : ∀ {b : Addr} {m : Str → Option Value}, s₁.heap.Ns b m → (hidT s₁.heap H).Ns b m := fun {b m} ⟨o, es, ep, e, d, r⟩ => ⟨o, es, ep, base_of e (noA e d), d, r⟩
    have hKb : K.In (hidT s₁.heap H) := fun b o e => base_of (KX b o e) (by
      cases q : H b with
      | none => rfl
      | some u =>
        have e' : b = a := hA b (by rw [q]; simp)
        subst e'
        rw [hK (by rw [q]; simp)] at e; cases e)
    have hM : Mod K mg (hidT s₁.heap H) := ⟨hKb, nsK hns, ⟨mb, nsK hb, hbb⟩, let ⟨mc, h1, h2⟩ := hlim; ⟨mc, nsK h1, h2⟩⟩
    have e0 : Env0 P w K mg (hidT s₁.heap H) callerA [] s₁ H := ⟨rfl, hM, fun b o e => of_hidT e, Nat.le_of_eq (hidT_size _ _), trivial, fun b hb => absurd (show b ∈ ([] : List Addr) from hb) (by simp), hok, .of_eq hg⟩
    refine codeAny_mono ((F _ hKb (nsK hns)).run callerA [] s₁ H ⟨[.ref a], []⟩ [.ref a] [.ref a] _ _ hr e0 (hbind s₁ (.ref a)) (.cons rfl .nil) (hsp H hO hS)) fun r s' h => ?_
    cases r with
    | error e => exact (hCX H e s' h).elim
    | ok fl =>
      cases fl with
      | next => exact False.elim h
      | brk => exact False.elim h
      | cont => exact False.elim h
      | ret u =>
        obtain ⟨v, H', os, bare, un, hok', r', q⟩ := h
        have q' : v = .bl true := q
        subst q'
        obtain rfl : u = Value.bool true := r'
        refine ⟨rfl, OldK.of_keep fun b o e => ?_, os, bare⟩
        cases q : H b with
        | none => exact un.keep b o e q (by intro z; exact absurd (show b ∈ ([] : List Addr) from z) (by simp)) (by simp)
        | some u =>
          rcases hO b with z | ⟨ob, xs, z⟩
          · rw [q] at z; cases z
          · have z2 := un.frzs b ob _ z
            obtain ⟨e1, _⟩ := hok b _ z
            obtain ⟨e2, _⟩ := hok' b _ z2
            rw [e] at e1; cases e1
            exact e2
  cases hk : K.lookup a with
  | some o =>
    -- the script is one of the module's own objects
    have e := KX a o hk
    rw [ha] at e
    cases e
    refine core (fun _ => none) (fun _ => .inl rfl) (.inr ⟨_, vs.toArray, _, hk, rfl, rfl, rfl, by rw [List.size_toArray, lenV]; exact hl, by simpa using rv⟩) (fun b u z => by have z' : (none : Option HO) = some u := z; cases z') (fun b z => absurd rfl z) fun z => absurd rfl z
  | none =>
    refine core (fun b => if b = a then some (.frz { cls := .type "list", data := .seq vs.toArray } (.lst (ns.map V.int))) else none) (fun b => ?_) (.inl (.inr ⟨{ cls := .type "list", data := .seq vs.toArray }, if_pos rfl⟩)) (fun b u z => ?_) (fun b z => ?_) fun _ => hk
    · by_cases hb : b = a
      · exact .inr ⟨_, _, if_pos hb⟩
      · exact .inl (if_neg hb)
    · by_cases hb : b = a
      · have z' := (if_pos hb).symm.trans z
        cases z'
        subst hb
        exact ⟨ha, by rw [List.length_map]; exact hl, vs, _, rv, ha⟩
      · have z' := (if_neg hb).symm.trans z
        cases z'
    · by_cases hb : b = a
      · exact hb
      · exact absurd (if_neg hb) z
end L2

namespace L2
open PySem PySem.Spec PyProof.Rows

abbrev KOf {K : PySem.W.Frag} {h : Heap} (_ : K.In h) : PySem.W.Frag := K

/-- the goal that k_head leaves (case hc), from the law's promise. F gives the function object fd (K's own) once, then the promise over every base -/
theorem walk_of {l : PySem.W.OpenLaw} {n k : Nat} {q : Program} {loose : List Str} {XP : (Str → Option Value) → Heap → Prop} {YP : World → Heap → Prop} {d : DefRec} {K : Params → PySem.W.Frag} {CX : World → CXT} {sp : World → Sp} {x : Str}
    (hn : l.most = some n) (hn2 : n ≤ sizeLine) (hdf : d.params.defaults = []) (hr : Room k callerA)
    (hY : ∀ (w : World) (h : Heap), YP w h → (K w.params).In h)
    (F : ∀ (w : World) (mg : Str → Option Value) (fa : Addr) (h : Heap), (K w.params).In h → h.Ns mainGlobals mg → mg d.name = some (.ref fa) →
      ∃ fd : FuncData, (∀ (s : Shared) (u : Value), BindsTo s fd ⟨[u], []⟩ [(x, u)]) ∧
        ∀ base : Heap, (K w.params).In base → base.Ns mainGlobals mg → FnOk l.prog w (K w.params) mg base (CX w) k fa fd [x] (sp w))
    (hsp : ∀ (w : World) (H : Hp) (a : Addr) (ns : List Int), ns.length ≤ n → Only H → SqL (K w.params) H a (ns.map V.int) → sp w [.ref a] H (fun v _ => v = .bl true) fun _ _ _ => False)
    (hCX : ∀ (w : World) (H : Hp) (s : Shared) (e : Value) (s' : Shared), CX w [] H s (fun _ _ _ => False) e s' → False) :
    PySem.W.WalkO q loose XP YP l.row.toRowW d [] (fun f vs => PySem.call f vs) := by
  refine Att.attach_call hn hdf fun w s₀ s₁ mg mb fa o pm cd doc a vs ns G Y ho hd hcd hmg hobj hints hlen hg => ?_
  have KX := hY w _ Y
  obtain ⟨fd, hb, hF⟩ := F w mg fa _ KX G.T.g hmg
  exact law_call KX G.T.g G.T.b G.T.builtins G.T.nolimit hg hobj hints (Nat.le_trans hlen hn2) hr hF hb (fun H hO hS => hsp w H a ns hlen hO hS) fun H e s' => hCX w H s₁ e s'
end L2


/-! SHORT WORDS over the layer: a def of the text, its body, what a loop and a test want. -/
namespace L2
open PySem PySem.Spec PyProof.Rows

/-! ### the text by places -/
/-- the j-th statement of a class's body -/
def inClass (s : Stmt) (j : Nat) : Stmt := match s with
  | .ClassDef _ _ _ body _ _ _ _ _ _ _ => body.getD j (.Pass ⟨0, 0, 0, 0⟩)
  | _ => .Pass ⟨0, 0, 0, 0⟩
def defArgs (s : Stmt) : Arguments := match s with
  | .FunctionDef _ a _ _ _ _ _ _ _ _ => a
  | _ => { posonlyargs := [], args := [], vararg := none, kwonlyargs := [], kw_defaults := [], kwarg := none, defaults := [] }
def defBody (s : Stmt) : List Stmt := match s with
  | .FunctionDef _ _ b _ _ _ _ _ _ _ => b
  | _ => []
def defScope (s : Stmt) : Scope := match s with
  | .FunctionDef _ _ _ _ _ _ sc _ _ _ => sc
  | _ => { kind := .function, names := [], isGenerator := false, isCoroutine := false }

/-! ### no exception leaves a def -/
abbrev CX0 : CXT := fun _ _ _ _ _ _ => False
abbrev E0 : XK := fun _ _ _ => False
theorem pass0 {X : Cx} : Passes CX0 X E0 := fun _ _ _ _ _ _ _ h => h.elim

/-! ### a def (or method) of the text as it stands behind the top -/
structure Fun (K : PySem.W.Frag) (x qual : Str) (st : Stmt) (f : Addr) (fd : FuncData) : Prop where
  ex : ∃ (oc : Value) (od : Option Addr) (kV doc pm : Value) (an : Option Addr) (cdv ct : Value) (osl : Array (Option Value)),
    fd = PySem.W.fnOf x qual (defArgs st) (defBody st) (defScope st) .none kV doc pm an cdv ct ∧ K.lookup f = some ⟨oc, od, .func fd, osl⟩ ∧ PySem.W.codeIn K cdv qual = true
  kp : PySem.W.keepIn K (.ref f) = true
section
variable {P : Program} {w : World} {K : PySem.W.Frag} {mg : Str → Option Value} {base : Heap}
/-- THE RULE for a def: its body as a term of rules, and the reading of that term -/
theorem Fun.ok {x qual : Str} {st : Stmt} {f : Addr} {fd : FuncData} {N ps : List Str} {k : Nat} {sp : Sp} (F : Fun K x qual st f fd) (S : FnScope N ps (defScope st)) (len : ∀ vs H Q E, sp vs H Q E → vs.length = ps.length)
    (hbody : ∀ (cdv : Value) (A : Around) (outer : List Env) (s : Shared) (H : Hp) (vs : List V) (Q : VK) (E : XK), Room k (A.deeper (envOfC qual (defScope st) s.heap.objs.size f cdv)) → sp vs H Q E →
      ∃ t, PSs (cxOf CX0 P w K mg base N qual (defScope st) f cdv A outer s H E).nox (defBody st) t ∧ t { nx := fun _ H' => Q .non H', rt := Q } (start N vs) H) : FnOk P w K mg base CX0 (k + 1) f fd ps sp := by
  obtain ⟨oc, od, kV, doc, pm, an, cdv, ct, osl, rfl, lk, hcd⟩ := F.ex
  refine fn_of lk hcd S len fun A outer s H vs Q E hr hsp => ?_
  obtain ⟨t, h, q⟩ := hbody cdv A outer s H vs Q E hr hsp
  exact ⟨t, h.nox, q⟩
/-- how its arguments bind (no defaults): h is «fun _ _ _ _ _ _ us hl => match us, hl with | [_, _], _ => rfl», one _ a parameter -/
theorem Fun.binds {x qual : Str} {st : Stmt} {f : Addr} {fd : FuncData} {ps : List Str} (F : Fun K x qual st f fd)
    (h : ∀ (kV doc pm : Value) (an : Option Addr) (cdv ct : Value) (us : List Value), us.length = ps.length → bindArgs (PySem.W.fnOf x qual (defArgs st) (defBody st) (defScope st) .none kV doc pm an cdv ct) ⟨us, []⟩ = pure (ps.zip us)) : Binds K fd ps [] := by
  obtain ⟨oc, od, kV, doc, pm, an, cdv, ct, osl, rfl, lk, hcd⟩ := F.ex
  exact .all (h kV doc pm an cdv ct)
theorem fun_mk {x qual : Str} {st : Stmt} {f : Addr} {oc : Value} {od an : Option Addr} {osl : Array (Option Value)} {kV doc pm cdv ct : Value} (l : K.lookup f = some ⟨oc, od, .func (PySem.W.fnOf x qual (defArgs st) (defBody st) (defScope st) .none kV doc pm an cdv ct), osl⟩)
    (c : PySem.W.codeIn K cdv qual = true) (k : PySem.W.keepIn K (.ref f) = true) : Fun K x qual st f (PySem.W.fnOf x qual (defArgs st) (defBody st) (defScope st) .none kV doc pm an cdv ct) := ⟨⟨oc, od, kV, doc, pm, an, cdv, ct, osl, rfl, l, c⟩, k⟩
end
/-! ### expressions in short: the name that stands in the i-th slot -/
section
variable {X : Cx}
theorem pv (i : Nat) {x : Str} {pos : Pos} (hN : X.N[i]? = some x := by rfl) (hv : Vis X.env.scope x := by first | exact Or.inl rfl | exact Or.inr (Or.inl rfl) | exact Or.inr (Or.inr rfl)) (hd : (x == ("__debug__" : Str)) = false := by decide)
    (hcd : (x == ("__classdict__" : Str)) = false := by decide) : PE X (.Name x pos) (tVar i) := pe_var hN hv hd hcd
end

/-! ### tests -/
theorem iteF {A B : Prop} (h : B) : if false = true then A else B := by
  rw [if_neg Bool.false_ne_true]
  exact h
theorem iteT {A B : Prop} (h : A) : if true = true then A else B := by
  rw [if_pos rfl]
  exact h
theorem ite2 {c A B : Prop} [Decidable c] (h1 : c → A) (h2 : ¬ c → B) : if c then A else B := by
  by_cases h : c
  · rw [if_pos h]
    exact h1 h
  · rw [if_neg h]
    exact h2 h
/-! ### heaps -/
/-- all that was tracked is as it was -/
def Same (H H' : Hp) : Prop := ∀ b o, H b = some o → H' b = some o
theorem Same.refl (H : Hp) : Same H H := fun _ _ h => h
theorem Same.trans {H H1 H2 : Hp} (a : Same H H1) (b : Same H1 H2) : Same H H2 := fun c o h => b c o (a c o h)
theorem Same.free {H H' : Hp} (e : Same H H') {l : Addr} (h : H' l = Option.none) : H l = Option.none := by
  cases q : H l with
  | none => rfl
  | some o =>
    rw [e l o q] at h
    cases h
theorem Same.seq {K : PySem.W.Frag} {H H' : Hp} {a : Addr} {xs : List V} (e : Same H H') (h : SqL K H a xs) : SqL K H' a xs := by
  rcases h with (h | ⟨o, h⟩) | h
  · exact .inl (.inl (e _ _ h))
  · exact .inl (.inr ⟨o, e _ _ h⟩)
  · exact .inr h

end L2

set_option Elab.async false
set_option linter.all false
set_option maxRecDepth 100000
namespace L2
open PySem PySem.Spec PyProof.Rows

/-! ### lists of pairs as tables -/
section
variable {κ : Type} [DecidableEq κ]
def valV (kvs : List (κ × V)) (k : κ) : Option V := (kvs.find? fun kv => decide (kv.1 = k)).map (·.2)
/-- in its place, or at the end -/
def putK (kvs : List (κ × V)) (k : κ) (v : V) : List (κ × V) :=
  if (kvs.any fun kv => decide (kv.1 = k)) = true then kvs.map (fun kv => if kv.1 = k then (kv.1, v) else kv) else kvs ++ [(k, v)]
def dropK (kvs : List (κ × V)) (k : κ) : List (κ × V) := kvs.filter fun kv => decide (kv.1 ≠ k)

theorem valV_pos {p : κ × V} {r : List (κ × V)} {k : κ} (e : p.1 = k) : valV (p :: r) k = some p.2 := by simp [valV, List.find?_cons, e]
theorem valV_neg {p : κ × V} {r : List (κ × V)} {k : κ} (e : ¬ p.1 = k) : valV (p :: r) k = valV r k := by simp [valV, List.find?_cons, e]
theorem valV_any (k : κ) : ∀ kvs : List (κ × V), (kvs.any fun kv => decide (kv.1 = k)) = (valV kvs k).isSome
  | [] => rfl
  | p :: r => by
    rw [List.any_cons]
    by_cases e : p.1 = k
    · simp only [valV_pos e, decide_eq_true e, Bool.true_or, Option.isSome_some]
    · rw [valV_neg e, decide_eq_false e, Bool.false_or]; exact valV_any k r
theorem RelO.isSome_eq {o : Option V} {u : Option Value} (r : RelO o u) : o.isSome = u.isSome := by
  cases o with
  | none => cases u with
    | none => rfl
    | some _ => exact (show False from r).elim
  | some _ => cases u with
    | none => exact (show False from r).elim
    | some _ => rfl
theorem RelO.getD {o : Option V} {u : Option Value} {d : V} {d' : Value} (r : RelO o u) (rd : RelV d d') : RelV (o.getD d) (u.getD d') := by
  cases o with
  | none => cases u with
    | none => exact rd
    | some _ => exact (show False from r).elim
  | some _ => cases u with
    | none => exact (show False from r).elim
    | some _ => exact r

/-- raw tables of the same keys -/
theorem KV.val {kvs : List (κ × V)} {vs : List (κ × Value)} (r : KV kvs vs) (k : κ) : RelO (valV kvs k) (valueAt vs k) := by
  unfold KV at r
  induction r with
  | nil => exact True.intro
  | @cons p q ps qs h t ih =>
    obtain ⟨h1, h2⟩ := h
    by_cases e : p.1 = k
    · have e' : q.1 = k := h1.symm.trans e
      have b : valueAt (q :: qs) k = some q.2 := by simp [valueAt, List.find?_cons, e']
      rw [valV_pos e, b]; exact h2
    · have e' : ¬ q.1 = k := fun z => e (h1.trans z)
      have b : valueAt (q :: qs) k = valueAt qs k := by simp [valueAt, List.find?_cons, e']
      rw [valV_neg e, b]; exact ih
theorem KV.any {kvs : List (κ × V)} {vs : List (κ × Value)} (r : KV kvs vs) (k : κ) : (kvs.any fun kv => decide (kv.1 = k)) = vs.any fun kv => decide (kv.1 = k) := by
  unfold KV at r
  induction r with
  | nil => rfl
  | cons h t ih => rw [List.any_cons, List.any_cons, ih, h.1]
theorem KV.repl {kvs : List (κ × V)} {vs : List (κ × Value)} (r : KV kvs vs) (k : κ) {y : V} {u : Value} (ry : RelV y u) :
    KV (kvs.map fun kv => if kv.1 = k then (kv.1, y) else kv) (vs.map fun kv => if kv.1 = k then (kv.1, u) else kv) := by
  unfold KV at r ⊢
  induction r with
  | nil => exact .nil
  | @cons p q ps qs h t ih =>
    rw [List.map_cons, List.map_cons]
    refine .cons ?_ ih
    obtain ⟨h1, h2⟩ := h
    by_cases e : p.1 = k
    · rw [if_pos e, if_pos (h1.symm.trans e)]; exact ⟨h1, ry⟩
    · rw [if_neg e, if_neg (fun z => e (h1.trans z))]; exact ⟨h1, h2⟩
theorem KV.put {kvs : List (κ × V)} {vs : List (κ × Value)} (r : KV kvs vs) (k : κ) {y : V} {u : Value} (ry : RelV y u) : KV (putK kvs k y) (stored vs k u) := by
  unfold putK stored
  rw [r.any k]
  by_cases e : (vs.any fun kv => decide (kv.1 = k)) = true
  · rw [if_pos e, if_pos e]; exact r.repl k ry
  · rw [if_neg e, if_neg e]; exact Paired.snoc r ⟨rfl, ry⟩
theorem KV.drop {kvs : List (κ × V)} {vs : List (κ × Value)} (r : KV kvs vs) (k : κ) : KV (dropK kvs k) (without vs k) := by
  unfold KV at r ⊢
  unfold dropK without
  induction r with
  | nil => exact .nil
  | @cons p q ps qs h t ih =>
    obtain ⟨h1, h2⟩ := h
    rw [List.filter_cons, List.filter_cons]
    by_cases e : p.1 = k
    · have a : ¬ decide (p.1 ≠ k) = true := by simp [e]
      have b : ¬ decide (q.1 ≠ k) = true := by simp [h1.symm.trans e]
      rw [if_neg a, if_neg b]; exact ih
    · have e' : ¬ q.1 = k := fun z => e (h1.trans z)
      have a : decide (p.1 ≠ k) = true := by simp [e]
      have b : decide (q.1 ≠ k) = true := by simp [e']
      rw [if_pos a, if_pos b]; exact .cons ⟨h1, h2⟩ ih
theorem KV.keys {kvs : List (κ × V)} {vs : List (κ × Value)} (r : KV kvs vs) : kvs.map (·.1) = vs.map (·.1) := by
  unfold KV at r
  induction r with
  | nil => rfl
  | cons h t ih => rw [List.map_cons, List.map_cons, ih, h.1]
theorem KV.length {kvs : List (κ × V)} {vs : List (κ × Value)} (r : KV kvs vs) : kvs.length = vs.length := Paired.length r
end


/-! ### a tracked dict, its keys ints and texts or tuples of these -/
/-- raw entries of a dict with tuple keys -/
abbrev KT (H : Hp) : List (List Key × V) → List (List Key × Addr × Value) → Prop := Paired fun p q => p.1 = q.1 ∧ H q.2.1 = some (.tup (p.1.map kV)) ∧ RelV p.2 q.2.2
theorem KT.val {H : Hp} {kvs : List (List Key × V)} {xs : List (List Key × Addr × Value)} (r : KT H kvs xs) (k : List Key) : RelO (valV kvs k) ((atKey xs k).map (·.2)) := by
  induction r with
  | nil => exact True.intro
  | @cons p q ps qs h t ih =>
    obtain ⟨h1, _, h2⟩ := h
    by_cases e : p.1 = k
    · have e' : q.1 = k := h1.symm.trans e
      have b : atKey (q :: qs) k = some q.2 := by simp [atKey, List.find?_cons, e']
      rw [valV_pos e, b]; exact h2
    · have e' : ¬ q.1 = k := fun z => e (h1.trans z)
      have b : atKey (q :: qs) k = atKey qs k := by simp [atKey, List.find?_cons, e']
      rw [valV_neg e, b]; exact ih
theorem KT.repl {H : Hp} {kvs : List (List Key × V)} {xs : List (List Key × Addr × Value)} (r : KT H kvs xs) (k : List Key) {y : V} {u : Value} (ry : RelV y u) :
    KT H (kvs.map fun kv => if kv.1 = k then (kv.1, y) else kv) (xs.map (putAt k u)) := by
  induction r with
  | nil => exact .nil
  | @cons p q ps qs h t ih =>
    rw [List.map_cons, List.map_cons]
    refine .cons ?_ ih
    obtain ⟨h1, h2, h3⟩ := h
    unfold putAt
    by_cases e : p.1 = k
    · rw [if_pos e, if_pos (h1.symm.trans e)]; exact ⟨h1, h2, ry⟩
    · rw [if_neg e, if_neg (fun z => e (h1.trans z))]; exact ⟨h1, h2, h3⟩
theorem KT.put {H : Hp} {kvs : List (List Key × V)} {xs : List (List Key × Addr × Value)} (r : KT H kvs xs) (k : List Key) {b : Addr} {y : V} {u : Value} (hb : H b = some (.tup (k.map kV))) (ry : RelV y u) :
    KT H (putK kvs k y) (storedH xs k b u) := by
  have e : (kvs.any fun kv => decide (kv.1 = k)) = (atKey xs k).isSome := by
    rw [valV_any, (r.val k).isSome_eq, Option.isSome_map]
  unfold putK storedH
  rw [e]
  by_cases q : (atKey xs k).isSome = true
  · rw [if_pos q, if_pos q]; exact r.repl k ry
  · rw [if_neg q, if_neg q]; exact Paired.snoc r ⟨rfl, hb, ry⟩
theorem KT.keeps {H H' : Hp} {kvs : List (List Key × V)} {xs : List (List Key × Addr × Value)} (r : KT H kvs xs) (ht : ∀ b ys, H b = some (.tup ys) → H' b = some (.tup ys)) : KT H' kvs xs :=
  Paired.mapP r fun _ _ z => ⟨z.1, ht _ _ z.2.1, z.2.2⟩

section
variable {P : Program} {w : World} {H : Hp} {h : Heap} {a : Addr}
end

/-- what the dict at a holds at the key y -/
def DGet (H : Hp) (a : Addr) (y : V) (r : Option V) : Prop :=
  (∃ kvs k, Rd H a (.dK kvs) ∧ y = kV k ∧ r = valV kvs k) ∨ ∃ kvs k b, Rd H a (.dT kvs) ∧ y = .ref b ∧ H b = some (.tup (k.map kV)) ∧ r = valV kvs k
/-- the heap behind a[y] = v -/
def DPut (H : Hp) (a : Addr) (y v : V) (H' : Hp) : Prop :=
  (∃ kvs k, H a = some (.dK kvs) ∧ y = kV k ∧ kvs.length < sizeLine ∧ H' = upd H a (.dK (putK kvs k v))) ∨
  ∃ kvs k b, H a = some (.dT kvs) ∧ y = .ref b ∧ H b = some (.tup (k.map kV)) ∧ kvs.length < sizeLine ∧ H' = upd H a (.dT (putK kvs k v))
theorem DGet.k {H : Hp} {a : Addr} {kvs : List (Key × V)} {k : Key} (e : H a = some (.dK kvs)) : DGet H a (kV k) (valV kvs k) := .inl ⟨kvs, k, .inl e, rfl, rfl⟩
theorem DGet.t {H : Hp} {a b : Addr} {kvs : List (List Key × V)} {k : List Key} (e : H a = some (.dT kvs)) (eb : H b = some (.tup (k.map kV))) : DGet H a (.ref b) (valV kvs k) := .inr ⟨kvs, k, b, .inl e, rfl, eb, rfl⟩
theorem DPut.k {H : Hp} {a : Addr} {kvs : List (Key × V)} {k : Key} {v : V} (e : H a = some (.dK kvs)) (hl : kvs.length < sizeLine) : DPut H a (kV k) v (upd H a (.dK (putK kvs k v))) := .inl ⟨kvs, k, e, rfl, hl, rfl⟩
theorem DPut.t {H : Hp} {a b : Addr} {kvs : List (List Key × V)} {k : List Key} {v : V} (e : H a = some (.dT kvs)) (eb : H b = some (.tup (k.map kV))) (hl : kvs.length < sizeLine) :
    DPut H a (.ref b) v (upd H a (.dT (putK kvs k v))) := .inr ⟨kvs, k, b, e, rfl, eb, hl, rfl⟩


section
variable {X : Cx} {pins : List (Addr × Obj)} {σ : St} {H : Hp} {s : Shared} {a : Addr} {y v : V} {u r : Value} {o : Option V} {A : Around} {E : Value → Shared → Prop}

end

section
variable {X : Cx} {pins : List (Addr × Obj)} {σ : St} {H : Hp} {s : Shared} {a : Addr} {kvs : List (Key × V)} {k : Key} {u : Value} {A : Around} {E : Value → Shared → Prop}
end


/-! ### readings and rules -/
/-- the element of a subscription, not a slice -/
def NoSl (i : Expr) : Prop := ∀ ov iv, subscripted i false ov iv = operate [ov, iv] (getItem ov iv)
/-- d[y] -/
def tDGet (td ty : TE) : TE := fun σ H Q => td σ H fun x H1 => ty σ H1 fun y H2 => ∃ a v, x = .ref a ∧ DGet H2 a y (some v) ∧ Q v H2
/-- y in d, y not in d -/
def tDIn (ty td : TE) : TE := fun σ H Q => ty σ H fun y H1 => td σ H1 fun x H2 => ∃ a o, x = .ref a ∧ DGet H2 a y o ∧ Q (.bl o.isSome) H2
def tDNotIn (ty td : TE) : TE := fun σ H Q => ty σ H fun y H1 => td σ H1 fun x H2 => ∃ a o, x = .ref a ∧ DGet H2 a y o ∧ Q (.bl (!o.isSome)) H2
/-- d[y] = v -/
def sDPut (td ty tv : TE) : TS := fun D σ H => tv σ H fun v H1 => td σ H1 fun x H2 => ty σ H2 fun y H3 => ∃ a H4, x = .ref a ∧ DPut H3 a y v H4 ∧ D.nx σ H4
/-- d[y] op= v -/
def sDAug (td ty tv : TE) (rd : V → V → Hp → VK → Prop) : TS := fun D σ H => td σ H fun x H1 => ty σ H1 fun y H2 => ∃ a v, x = .ref a ∧ DGet H2 a y (some v) ∧
  tv σ H2 fun y2 H3 => rd v y2 H3 fun z H4 => ∃ H5, DPut H4 a y z H5 ∧ D.nx σ H5
/-- del d[y] -/
def sDDel (td ty : TE) : TS := fun D σ H => td σ H fun x H1 => ty σ H1 fun y H2 => ∃ a kvs k, x = .ref a ∧ H2 a = some (.dK kvs) ∧ y = kV k ∧ (valV kvs k).isSome = true ∧ D.nx σ (upd H2 a (.dK (dropK kvs k)))

section
variable {X : Cx} {o i e value : Expr} {pos pos' tpos : Pos} {td ty tv : TE}
end


/-! ### displays -/
/-- {}, to be a dict of the kind that is wanted -/
def tDNewK : TE := fun _ H Q => ∀ p, H p = none → Q (.ref p) (upd H p (.dK []))
def tDNewT : TE := fun _ H Q => ∀ p, H p = none → Q (.ref p) (upd H p (.dT []))
section
variable {X : Cx} {pos : Pos}
end

/-- the pairs of a display, from the left -/
def tPairs : List (TE × TE) → St → Hp → (List (V × V) → Hp → Prop) → Prop
  | [], _, H, Q => Q [] H
  | (tk, tv) :: r, σ, H, Q => tk σ H fun x H1 => tv σ H1 fun y H2 => tPairs r σ H2 fun ps H3 => Q ((x, y) :: ps) H3
abbrev VV : List (V × V) → List (Value × Value) → Prop := Paired fun p q => RelV p.1 q.1 ∧ RelV p.2 q.2
def PPs (X : Cx) (pos : Pos) (keys : List (Option Expr)) (values : List Expr) (trs : List (TE × TE)) : Prop :=
  ∀ (pins : List (Addr × Obj)) (s : Shared) (σ : St) (H : Hp) (Q : List (V × V) → Hp → Prop), Inv X pins σ H s → tPairs trs σ H Q →
    wpAny (model X.prog X.w) X.A (evalPairs (pairTrees keys values X.env pos)) (fun vs s' => ∃ ps H', Inv X pins σ H' s' ∧ VV ps vs ∧ Q ps H') X.xe s
def mergeK (kvs more : List (Key × V)) : List (Key × V) := more.foldl (fun acc kv => putK acc kv.1 kv.2) kvs
/-- {k: v, ..} with keys ints and texts; the new dict stands empty while the pairs are made -/
def tDisp (trs : List (TE × TE)) : TE := fun σ H Q => ∀ p, H p = none → tPairs trs σ (upd H p (.dK [])) fun ps H2 => H2 p = some (.dK []) ∧ ∃ kvs : List (Key × V), ps = kvs.map (fun kv => (kV kv.1, kv.2)) ∧ kvs.length ≤ 15 ∧ Q (.ref p) (upd H2 p (.dK (mergeK [] kvs)))
/-! ### methods -/
/-- a method call o.m(e) of a built-in, with one argument: what must be seen of the text -/
structure M1 (X : Cx) (o : Expr) (m : Str) (apos : Pos) (e : Expr) (cpos : Pos) : Prop where
  base : attributeBase o m X.env (eval o X.env) = eval o X.env
  few : ((backTo cpos (starEach [e] X.env)).all (fun x => !x.1) && (backToKw cpos (keywordEach [] X.env)).all (fun x => x.1.isSome)
    && decide (([e] : List Expr).length + ([] : List Keyword).length + (if ([] : List Keyword).isEmpty then 0 else 1) < 30)) = true
  line : (apos.endLine == cpos.line) = true
  trees : backTo cpos (starEach [e] X.env) = [(false, eval e X.env)]
structure M2 (X : Cx) (o : Expr) (m : Str) (apos : Pos) (e f : Expr) (cpos : Pos) : Prop where
  base : attributeBase o m X.env (eval o X.env) = eval o X.env
  few : ((backTo cpos (starEach [e, f] X.env)).all (fun x => !x.1) && (backToKw cpos (keywordEach [] X.env)).all (fun x => x.1.isSome)
    && decide (([e, f] : List Expr).length + ([] : List Keyword).length + (if ([] : List Keyword).isEmpty then 0 else 1) < 30)) = true
  line : (apos.endLine == cpos.line) = true
  trees : backTo cpos (starEach [e, f] X.env) = [(false, eval e X.env), (false, eval f X.env)]

/-- a is a dict, whatever its keys -/
def IsD (H : Hp) (a : Addr) : Prop := (∃ kvs, Rd H a (.dK kvs)) ∨ ∃ kvs, Rd H a (.dT kvs)
section
variable {X : Cx} {pins : List (Addr × Obj)} {σ : St} {H : Hp} {s : Shared} {a : Addr} {y d : V} {u r : Value} {o : Option V} {A : Around} {E : Value → Shared → Prop}
end

def tDGet1 (td ty : TE) : TE := fun σ H Q => td σ H fun x H1 => ∃ a, x = .ref a ∧ IsD H1 a ∧ ty σ H1 fun y H2 => ∃ o, DGet H2 a y o ∧ Q (o.getD .non) H2
def tDGet2 (td ty tx : TE) : TE := fun σ H Q => td σ H fun x H1 => ∃ a, x = .ref a ∧ IsD H1 a ∧ ty σ H1 fun y H2 => tx σ H2 fun z H3 => ∃ o, DGet H3 a y o ∧ Q (o.getD z) H3
/-- d.pop(k): there; d.pop(k, x): there or not -/
def tDPop1 (td ty : TE) : TE := fun σ H Q => td σ H fun x H1 => ∃ a, x = .ref a ∧ IsD H1 a ∧ ty σ H1 fun y H2 => ∃ kvs k v, H2 a = some (.dK kvs) ∧ y = kV k ∧ valV kvs k = some v ∧ Q v (upd H2 a (.dK (dropK kvs k)))
def tDPop2 (td ty tx : TE) : TE := fun σ H Q => td σ H fun x H1 => ∃ a, x = .ref a ∧ IsD H1 a ∧ ty σ H1 fun y H2 => tx σ H2 fun z H3 => ∃ kvs k, H3 a = some (.dK kvs) ∧ y = kV k ∧
  (∀ v, valV kvs k = some v → Q v (upd H3 a (.dK (dropK kvs k)))) ∧ (valV kvs k = none → Q z H3)
section
variable {X : Cx} {o e f : Expr} {apos cpos : Pos} {td ty tx : TE}
end

/-! ### dict(d): a copy -/
section
variable {X : Cx} {pins : List (Addr × Obj)} {σ : St} {H : Hp} {s : Shared} {a : Addr} {kvs : List (Key × V)} {A : Around} {E : Value → Shared → Prop}
end


section
variable {X : Cx} {pins : List (Addr × Obj)} {σ : St} {H : Hp} {s : Shared} {a : Addr} {y : V} {u : Value} {A : Around} {E : Value → Shared → Prop}
end
end L2


set_option Elab.async false
set_option linter.all false
set_option maxRecDepth 100000
set_option maxHeartbeats 4000000
namespace L2
open PySem PySem.Spec PyProof.Rows

/-! ### a text walked sign by sign -/
def Its (x : Str) : It := ⟨fun i _ => i < x.cps.size, fun i H v H' => H' = H ∧ ∃ c, x.cps[i]? = some c ∧ v = .str ⟨#[c]⟩, fun i _ => i = x.cps.size⟩
theorem walks_sign {P : Program} {w : World} {A : Around} (hh : A.handled = none) (it : Addr) (x : Str) (t : Tok) {ty : String} (hty : ty = "str_ascii_iterator" ∨ ty = "str_iterator") :
    Walks P w A it [it] [it] x.cps.size (SignAt x) (fun i h => h.IsStrIter it ty x t i) := by
  rcases hty with rfl | rfl
  · exact Walks.strAscii hh it x t
  · exact Walks.strWide hh it x t
theorem turn_str {P : Program} {w : World} {K : PySem.W.Frag} {tg : Expr} (x : Str) (t : Tok) (it : Addr) {ty : String} (hty : ty = "str_ascii_iterator" ∨ ty = "str_iterator") :
    Turn P w K tg (Its x) [it] it (fun i h => h.IsStrIter it ty x t i) where
  mem := by simp
  obj := fun i h st b hb => by
    have e : b = it := by simpa using hb
    subst e
    obtain ⟨o, e, c, d⟩ := st
    exact ⟨o, e, fun v z => by rw [d] at z; cases z⟩
  keep := fun i h h' st k => let ⟨o, e, r⟩ := st; ⟨o, k it (by simp) o e, r⟩
  item := by
    intro X hP hw hK hc i pins s σ H E I hf st hg
    subst hP hw hK
    obtain ⟨f0, f1, f2, f3, f4, f5⟩ := hf it (by simp)
    refine (walks_sign (I.ok.hd hc) it x t hty).item i s _ _ hg st fun v h' tk hv st' kk => ?_
    obtain ⟨c, u, hx, rfl⟩ := hv
    have I1 : Inv X pins σ H { s with heap := h', toks := tk } := I.turned (fun b o hb e => kk b o (by simpa using hb) e) f0 f1 f3 f4 f5
    obtain ⟨o, e, cc, d⟩ := id st'
    refine ⟨_, rfl, go_of (s := { s with heap := h', toks := tk }) e cc d ?_ ⟨.str ⟨#[c]⟩, H, I1, ⟨u, rfl⟩, ⟨rfl, c, hx, rfl⟩, st', fun b hb => (hf b hb).1⟩⟩
    rcases hty with rfl | rfl <;> decide
  done := by
    intro X hP hw hK hc i pins s σ H E I hf st hg
    subst hP hw hK
    obtain ⟨f0, f1, f2, f3, f4, f5⟩ := hf it (by simp)
    have hg' : i = x.cps.size := hg
    subst hg'
    exact (walks_sign (I.ok.hd hc) it x t hty).done s _ _ st fun h' tk kk => ⟨rfl, I.turned (fun b o hb e => kk b o (by simpa using hb) e) f0 f1 f3 f4 f5⟩
  self := fun A i s Q E st h => by
    rcases hty with rfl | rfl
    · exact wpAny_pyIter_striter_ascii st h
    · exact wpAny_pyIter_striter_wide st h
section
variable {X : Cx} {tg : Expr}
def iStr (tl : TE) : TI := fun σ H R => tl σ H fun x H1 => ∃ z, x = .str z ∧ R (Its z) H1
theorem pi_str {l : Expr} {tl : TE} (hl : PE X l tl) : PI X tg l (iStr tl) := by
  intro pins s σ H R I h
  refine thn (hl pins s σ H _ I h) fun v s1 ⟨x, H1, I1, r1, q1⟩ => ?_
  obtain ⟨z, e, q⟩ := q1
  subst e
  obtain ⟨t, rfl⟩ := r1
  refine wpAny_pyIter_strU ?_
  refine ⟨s1.heap.objs.size, [s1.heap.objs.size], _, _, H1, rfl, I1.kept (t' := s1.toks) fun b o e => Heap.get?_push_of_some _ e, turn_str z t _ (ty := strIterType z) (by unfold strIterType; split <;> simp), ⟨_, Heap.get?_push_size _ rfl, rfl, rfl⟩, fun b hb => ?_, q⟩
  have e : b = s1.heap.objs.size := by simpa using hb
  subst e
  exact I1.fpOk (Nat.le_refl _) (I1.hok.fresh (Nat.le_refl _))
end

/-! ### a list comprehension: one for with a name, no test or one -/
def pick (ix : List Nat) (σ : St) : St := ix.map fun i => (σ[i]?).join
def closOf (scope : Scope) (env : Env) : List (Str × Addr) := scope.names.foldl (fun cs y => if y.2 == .free then (y.1, (env.cells.lookup y.1).getD 0) :: cs else cs) []
theorem clos_mem (env : Env) : ∀ (l : List (Str × NameKind)) (acc : List (Str × Addr)) (p : Str × Addr), p ∈ l.foldl (fun cs y => if y.2 == NameKind.free then (y.1, (env.cells.lookup y.1).getD 0) :: cs else cs) acc →
    p ∈ acc ∨ ((p.1, NameKind.free) ∈ l ∧ p.2 = (env.cells.lookup p.1).getD 0)
  | [], _, _, h => .inl h
  | y :: l, acc, p, h => by
    rw [List.foldl_cons] at h
    rcases clos_mem env l _ p h with h1 | h1
    · by_cases hy : (y.2 == NameKind.free) = true
      · rw [if_pos hy] at h1
        rcases List.mem_cons.mp h1 with e | e
        · refine .inr ⟨?_, by rw [e]⟩
          have hk : y.2 = NameKind.free := by simpa using hy
          rw [e, ← hk]
          exact List.mem_cons_self
        · exact .inl e
      · rw [if_neg hy] at h1
        exact .inl h1
    · exact .inr ⟨List.mem_cons_of_mem _ h1.1, h1.2⟩
theorem clos_acc (env : Env) : ∀ (l : List (Str × NameKind)) (acc : List (Str × Addr)) (p : Str × Addr), p ∈ acc → p ∈ l.foldl (fun cs y => if y.2 == NameKind.free then (y.1, (env.cells.lookup y.1).getD 0) :: cs else cs) acc
  | [], _, _, h => h
  | y :: l, acc, p, h => by
    rw [List.foldl_cons]
    apply clos_acc env l
    split
    · exact List.mem_cons_of_mem _ h
    · exact h
theorem clos_has (env : Env) : ∀ (l : List (Str × NameKind)) (acc : List (Str × Addr)) (x : Str), (x, NameKind.free) ∈ l → ∃ c, (x, c) ∈ l.foldl (fun cs y => if y.2 == NameKind.free then (y.1, (env.cells.lookup y.1).getD 0) :: cs else cs) acc
  | [], _, _, h => nomatch h
  | y :: l, acc, x, h => by
    rw [List.foldl_cons]
    rcases List.mem_cons.mp h with e | e
    · subst e
      refine ⟨(env.cells.lookup x).getD 0, clos_acc env l _ _ ?_⟩
      rw [if_pos (by rfl)]
      exact List.mem_cons_self
    · exact clos_has env l _ x e
theorem lookup_some_of_mem {α : Type} : ∀ {l : List (Str × α)} {x : Str} {c : α}, (x, c) ∈ l → ∃ d, l.lookup x = some d
  | [], _, _, h => nomatch h
  | (y, d) :: l, x, c, h => by
    by_cases hx : (x == y) = true
    · exact ⟨d, by simp [List.lookup_cons, hx]⟩
    · have hx' : (x == y) = false := by simpa using hx
      rcases List.mem_cons.mp h with e | e
      · cases e
        simp at hx
      · obtain ⟨d', e'⟩ := lookup_some_of_mem e
        exact ⟨d', by simp [List.lookup_cons, hx', e']⟩
theorem clos_get {scope : Scope} {env : Env} (hf : ∀ y ∈ scope.names, y.2 = .free → ∃ c, env.cells.lookup y.1 = some c) {x : Str} {c : Addr} (h : (closOf scope env).lookup x = some c) : env.cells.lookup x = some c := by
  rcases clos_mem env scope.names [] (x, c) (PySem.mem_of_lookup h) with e | ⟨e1, e2⟩
  · exact nomatch e
  · obtain ⟨d, hd⟩ := hf _ e1 rfl
    have hd' : env.cells.lookup x = some d := hd
    have e3 : c = (env.cells.lookup x).getD 0 := e2
    rw [hd'] at e3 ⊢
    rw [e3]
    rfl
theorem clos_look {scope : Scope} {env : Env} {x : Str} (h : scope.names.lookup x = some .free) : ∃ c, (closOf scope env).lookup x = some c := by
  obtain ⟨c, hc⟩ := clos_has env scope.names [] x (PySem.mem_of_lookup h)
  exact lookup_some_of_mem hc
theorem closureFor_of {scope : Scope} {env : Env} (hf : ∀ y ∈ scope.names, y.2 = .free → ∃ c, env.cells.lookup y.1 = some c) : closureFor scope env = pure (closOf scope env) := by
  have all : ∀ (l : List (Str × NameKind)) (acc : List (Str × Addr)), (∀ y ∈ l, y.2 = .free → ∃ c, env.cells.lookup y.1 = some c) →
      (forIn l acc fun (x : Str × NameKind) (r : List (Str × Addr)) => if (x.2 == NameKind.free) = true then (do let a ← cellOf env x.1; pure (ForInStep.yield ((x.1, a) :: r))) else pure (ForInStep.yield r) : Sem (List (Str × Addr))) =
        pure (l.foldl (fun cs y => if y.2 == .free then (y.1, (env.cells.lookup y.1).getD 0) :: cs else cs) acc) := by
    intro l
    induction l with
    | nil => intro acc _; rfl
    | cons y l ih =>
      intro acc h
      rw [List.forIn_cons, List.foldl_cons]
      by_cases hy : (y.2 == NameKind.free) = true
      · obtain ⟨c, hc⟩ := h y List.mem_cons_self (by simpa using hy)
        rw [if_pos hy, if_pos hy]
        have e : cellOf env y.1 = pure c := by unfold cellOf; rw [hc]
        rw [e, hc]
        exact ih _ fun z hz => h z (List.mem_cons_of_mem _ hz)
      · rw [if_neg hy, if_neg hy]
        exact ih _ fun z hz => h z (List.mem_cons_of_mem _ hz)
  show ((forIn scope.names [] fun (x : Str × NameKind) (r : List (Str × Addr)) => if (x.2 == NameKind.free) = true then (do let a ← cellOf env x.1; pure (ForInStep.yield ((x.1, a) :: r))) else pure (ForInStep.yield r) : Sem (List (Str × Addr))) >>= fun r => pure r) = _
  rw [all scope.names [] hf]
  rfl

/-- a comprehension's scope: its own names, nothing bound in it is seen by others -/
structure LcScope (scope : Scope) (x : Str) (fv : List Str) (osc : Scope) : Prop where
  kind : scope.kind = .function
  nocell : ∀ y ∈ scope.names, y.2 ≠ .cell
  names : ∀ y ∈ scope.names, y.2 = .local → scope.names.lookup y.1 = some .local
  tgt : scope.names.lookup x = some .local
  free : ∀ y ∈ scope.names, y.2 = .free → osc.names.lookup y.1 = some .cell ∨ osc.names.lookup y.1 = some .free
  fvs : ∀ y ∈ fv, scope.names.lookup y = some .free
  nd : (x :: fv).Nodup

theorem relabel_free {scope : Scope} {env : Env} : ∀ {names : List (Str × NameKind)} {x : Str}, names.lookup x = some .free →
    (names.map fun (n, k) => if (k == NameKind.free && env.scope.kind == .function && env.kindOf n == some .cell) then (n, NameKind.cell) else (n, k)).lookup x = some .cell ∨
    (names.map fun (n, k) => if (k == NameKind.free && env.scope.kind == .function && env.kindOf n == some .cell) then (n, NameKind.cell) else (n, k)).lookup x = some .free
  | [], _, h => by simp at h
  | (n, k) :: r, x, h => by
    have ih := @relabel_free scope env r x
    show List.lookup x ((if (k == NameKind.free && env.scope.kind == .function && env.kindOf n == some .cell) = true then (n, NameKind.cell) else (n, k)) :: _) = _ ∨ List.lookup x ((if (k == NameKind.free && env.scope.kind == .function && env.kindOf n == some .cell) = true then (n, NameKind.cell) else (n, k)) :: _) = _
    cases hx : x == n with
    | true =>
      simp only [List.lookup_cons, hx] at h
      cases h
      by_cases hc : (NameKind.free == NameKind.free && env.scope.kind == .function && env.kindOf n == some .cell) = true
      · rw [if_pos hc]; left; simp [List.lookup_cons, hx]
      · rw [if_neg hc]; right; simp [List.lookup_cons, hx]
    | false =>
      simp only [List.lookup_cons, hx] at h
      by_cases hc : (k == NameKind.free && env.scope.kind == .function && env.kindOf n == some .cell) = true
      · rw [if_pos hc]; simp only [List.lookup_cons, hx]; exact ih h
      · rw [if_neg hc]; simp only [List.lookup_cons, hx]; exact ih h
/-- what is a cell or free behind the relabelling was free -/
theorem relabel_back {env : Env} : ∀ {names : List (Str × NameKind)} {x : Str}, (∀ y ∈ names, y.2 ≠ NameKind.cell) →
    ((names.map fun (n, k) => if (k == NameKind.free && env.scope.kind == .function && env.kindOf n == some .cell) then (n, NameKind.cell) else (n, k)).lookup x = some .cell ∨
    (names.map fun (n, k) => if (k == NameKind.free && env.scope.kind == .function && env.kindOf n == some .cell) then (n, NameKind.cell) else (n, k)).lookup x = some .free) → names.lookup x = some .free
  | [], _, _, h => by simp at h
  | (n, k) :: r, x, hn, h => by
    have ih := @relabel_back env r x fun y hy => hn y (List.mem_cons_of_mem _ hy)
    have hk := hn (n, k) List.mem_cons_self
    change List.lookup x ((if (k == NameKind.free && env.scope.kind == .function && env.kindOf n == some .cell) = true then (n, NameKind.cell) else (n, k)) :: _) = _ ∨ List.lookup x ((if (k == NameKind.free && env.scope.kind == .function && env.kindOf n == some .cell) = true then (n, NameKind.cell) else (n, k)) :: _) = _ at h
    cases hx : x == n with
    | true =>
      by_cases hc : (k == NameKind.free && env.scope.kind == .function && env.kindOf n == some .cell) = true
      · have hf : k = NameKind.free := by
          rw [Bool.and_eq_true, Bool.and_eq_true] at hc
          simpa using hc.1.1
        subst hf
        simp [List.lookup_cons, hx]
      · rw [if_neg hc] at h
        simp only [List.lookup_cons, hx] at h ⊢
        rcases h with h | h
        · cases h; exact absurd rfl hk
        · exact h
    | false =>
      by_cases hc : (k == NameKind.free && env.scope.kind == .function && env.kindOf n == some .cell) = true
      · rw [if_pos hc] at h; simp only [List.lookup_cons, hx] at h ⊢; exact ih h
      · rw [if_neg hc] at h; simp only [List.lookup_cons, hx] at h ⊢; exact ih h

/-- the context of a comprehension's block -/
def Cx.comp (X : Cx) (scope : Scope) (N' : List Str) (C : Addr) (s₀ : Shared) (H₀ : Hp) (ex : List Addr) : Cx where
  prog := X.prog
  w := X.w
  K := X.K
  mg := X.mg
  base := X.base
  A := X.A
  N := N'
  s₀ := s₀
  H₀ := H₀
  env := compEnvC scope (closOf scope X.env) C X.env
  outer := X.stack
  stack := X.stack
  ex := ex
  fn := fun _ => false
  calm := X.calm
  pn := []
  xe := fun _ _ => False

/-- the tests of a comprehension's for -/
def PIfs (X : Cx) (ifs : List Expr) (t : TT) : Prop :=
  ∀ (pins : List (Addr × Obj)) (s : Shared) (σ : St) (H : Hp) (Q : Bool → Hp → Prop), Inv X pins σ H s → t σ H Q →
    wpAny (model X.prog X.w) X.A (forIn ifs true fun c r => if r = true then do let ok ← isTrue c X.env (eval c X.env); pure (ForInStep.yield ok) else pure (ForInStep.yield r)) (TP X pins σ Q) X.xe s
def tYes : TT := fun _ H Q => Q true H
theorem pifs_nil {X : Cx} : PIfs X [] tYes := fun _ _ _ H _ I h => wpAny_tests_nil ⟨H, I, h⟩
theorem pifs_one {X : Cx} {c : Expr} {t : TT} (h : PT X c t) : PIfs X [c] t := fun pins s σ H Q I q => wpAny_tests_one (h pins s σ H Q I q)

/-- W: the invariant by the turn, a measure, the items so far -/
def LcW (J : It) (ix : List Nat) (σ : St) (tt : TT) (te : TE) (Q : VK) (H1 : Hp) : Prop := ∃ W : Nat → Nat → List V → Hp → Prop, (∃ m, W 0 m [] H1) ∧ ∀ i m ys H2, W i m ys H2 →
  (J.stop i H2 ∧ ∀ D, H2 D = none → Q (.ref D) (upd H2 D (.lst ys))) ∨
  (J.go i H2 ∧ ys.length < sizeLine ∧ ∀ x H3, J.yld i H2 x H3 → tt (some x :: pick ix σ) H3 fun b H4 => if b = true then te (some x :: pick ix σ) H4 fun y H5 => ∃ m', m' < m ∧ W (i + 1) m' (ys ++ [y]) H5 else ∃ m', m' < m ∧ W (i + 1) m' ys H4)
def tLC (ix : List Nat) (wi : TI) (tt : TT) (te : TE) : TE := fun σ H Q => wi σ H fun J H1 => LcW J ix σ tt te Q H1

theorem codeAny_compLoop_own {prog : Program} {w : World} {A : Around} {R : Result → Shared → Prop} {s : Shared} {elt target iter : Expr} {ifs : List Expr} {scope : Scope} {pos : Pos} {it acc : Value} {env : Env} (I : Nat → Shared → Prop)
    (turn : ∀ n s, I n s → wpAny (model prog w) A (pyNext it) (fun r s₁ => match r with
      | none => R (.ok .next) s₁
      | some v => wpAny (model prog w) A (letOwnedTupleGo target it v) (fun _ s₁ => wpAny (model prog w) A (assign target env v) (fun _ s₂ =>
          wpAny (model prog w) A (forIn ifs true fun c r => if r = true then do let ok ← isTrue c env (eval c env); pure (ForInStep.yield ok) else pure (ForInStep.yield r)) (fun ok s₃ =>
            if ok = true then wpAny (model prog w) A (eval elt env) (fun x s₄ =>
              wpAny (model prog w) A (call (.builtin "list.append") [acc, x]) (fun _ s₅ => ∃ m, m < n ∧ I m s₅) (fun _ _ => False) s₄) (fun _ _ => False) s₃
            else ∃ m, m < n ∧ I m s₃) (fun _ _ => False) s₂) (fun _ _ => False) s₁) (fun _ _ => False) s₁) (fun _ _ => False) s)
    (n : Nat) (h : I n s) :
    codeAny (model prog w) A (.compLoop (.ListComp elt [⟨target, iter, ifs, 0⟩] scope pos) 0 it acc env) R s := by
  refine codeAny_loop rfl I (fun n s hI => ?_) n h
  show wpAny _ A ((compTurn (.ListComp elt [⟨target, iter, ifs, 0⟩] scope pos) 0 it acc env).onRaise (fun x => do noteFrame x env; theTreesLotGoes x)) _ _ s
  refine wpAny_noted ?_
  rw [compTurn_list]
  refine wpAny_bind (wpAny_standAt (wpAny_bind (wpAny_mono (turn n s hI) (fun r s₁ h₁ => ?_) fun _ _ h' => h'.elim)))
  cases r with
  | none => exact wpAny_pure h₁
  | some v =>
    refine wpAny_bind (wpAny_mono h₁ (fun _ s₁' h₁' => ?_) fun _ _ h' => h'.elim)
    refine wpAny_bind (wpAny_mono h₁' (fun _ s₂ h₂ => wpAny_bind (wpAny_mono h₂ (fun ok s₃ h₃ => ?_) fun _ _ h' => h'.elim)) fun _ _ h' => h'.elim)
    cases ok with
    | false => exact wpAny_pure ⟨rfl, h₃⟩
    | true =>
      exact wpAny_bind (wpAny_bind (wpAny_mono h₃ (fun x s₄ h₄ => wpAny_bind (wpAny_mono h₄ (fun _ s₅ h₅ => wpAny_pure (wpAny_pure ⟨rfl, h₅⟩)) fun _ _ h' => h'.elim)) fun _ _ h' => h'.elim))

section
variable {X : Cx} {scope : Scope} {x : Str} {fv : List Str} {ix : List Nat}
theorem LcScope.cells (S : LcScope scope x fv X.env.scope) (ok : X.Ok) : ∀ y ∈ scope.names, y.2 = .free → ∃ c, X.env.cells.lookup y.1 = some c := fun y hy hf => by
  rcases S.free y hy hf with e | e
  · exact ok.has y.1 (.inl e)
  · exact ok.has y.1 (.inr e)
theorem comp_ok {pins : List (Addr × Obj)} {σ : St} {H : Hp} {s : Shared} {C : Addr} {fp : List Addr} (S : LcScope scope x fv X.env.scope) (I : Inv X pins σ H s) (hC : s.heap.objs.size ≤ C) (f2 : ∀ b ∈ fp, FpOk X pins H b) (fl : ∀ b ∈ fp, b < s.heap.objs.size) :
    (X.comp scope (x :: fv) C s H fp).Ok := by
  have hcl := S.cells I.ok
  refine ⟨I.ok.mod, S.kind, I.ok.glob, I.ok.blt, hC, fun y z c h1 h2 => I.ok.inj y z c (clos_get hcl h1) (clos_get hcl h2), fun y hy => ?_, fun y c hfn _ => absurd (show false = true from hfn) (by decide), I.ok.hd, I.ok.frames, .inl rfl,
    fun b hb => ⟨Nat.ne_of_lt (Nat.lt_of_lt_of_le (fl b hb) hC), fun y c h1 => (f2 b hb).2.2.2.2.1 y c (clos_get hcl h1)⟩, I.bs, Nat.le_trans I.ok.bsz I.sz, fun b o e hb => ?_, fun b hb hs => ?_, I.stack, I.stkFree⟩
  · exact clos_look (relabel_back S.nocell hy)
  · rcases (f2 b hb).2.2.2.1 with z | z
    · exact I.ok.noex b o e z
    · exact absurd (Nat.lt_of_lt_of_le (Heap.lt_size (I.ok.bs b o e).1) z) (Nat.lt_irrefl _)
  · rcases List.mem_cons.mp (I.stkSub b hs) with z | z
    · exact (f2 b hb).2.1 z
    · exact (f2 b hb).2.2.1 z
end
end L2

set_option Elab.async false
set_option linter.all false
set_option maxRecDepth 100000
set_option maxHeartbeats 4000000
namespace L2
open PySem PySem.Spec PyProof.Rows
section
variable {X : Cx} {scope : Scope} {x : Str} {fv : List Str} {ix : List Nat}
def lobj (its : List Value) (n : Nat) : Obj := { cls := .type "list", data := .seq its.toArray n }
/-- the block's entry -/
theorem comp_start {pins : List (Addr × Obj)} {σ : St} {H : Hp} {s : Shared} {C D : Addr} {fp : List Addr} {h₁ : Heap} {m : Str → Option Value} {tk n : Nat} (S : LcScope scope x fv X.env.scope) (hix : ix.map (fun i => X.N[i]?) = fv.map some) (I : Inv X pins σ H s)
    (hD : s.heap.objs.size ≤ D) (hDC : D ≠ C) (hC : s.heap.objs.size ≤ C) (f2 : ∀ b ∈ fp, FpOk X pins H b) (fl : ∀ b ∈ fp, b < s.heap.objs.size)
    (hns : h₁.Ns C m) (old : ∀ b o, s.heap.get? b = some o → h₁.get? b = some o) (hacc : h₁.get? D = some (lobj [] n)) :
    Inv (X.comp scope (x :: fv) C s H fp) [(D, lobj [] n)] (none :: pick ix σ) H { s with heap := h₁, toks := tk } := by
  have hcl := S.cells I.ok
  refine ⟨comp_ok S I hC f2 fl, rfl, I.bare, Un.kept old, ⟨m, hns, fun i y v h1 h2 h3 => ?_⟩, fun y c h1 => ?_, I.hok.fresh hC, fun y c h1 => I.freeC y c (clos_get hcl h1), fun p hp => ?_, I.hok.kept old, ?_⟩
  · cases i with
    | zero => simp at h2
    | succ i =>
      have h1' : fv[i]? = some y := by simpa [Cx.comp] using h1
      have h2' : (pick ix σ)[i]? = some (some v) := by simpa using h2
      unfold pick at h2'
      rw [List.getElem?_map] at h2'
      cases e : ix[i]? with
      | none => rw [e] at h2'; cases h2'
      | some j =>
        rw [e] at h2'
        have e2 : (σ[j]?).join = some v := by simpa using h2'
        have e3 : σ[j]? = some (some v) := by
          cases q : σ[j]? with
          | none => rw [q] at e2; cases e2
          | some o => rw [q] at e2; rw [show o = some v from e2]
        have e4 : X.N[j]? = some y := by
          have := congrArg (fun l => l[i]?) hix
          simp only [List.getElem?_map, e, h1', Option.map_some] at this
          exact Option.some.inj this
        have hyf := S.fvs y (List.mem_of_getElem? h1')
        have hout := S.free (y, .free) (PySem.mem_of_lookup hyf) rfl
        obtain ⟨m0, hn0, hl0⟩ := I.loc
        obtain ⟨u, r, lk⟩ := hl0 j y v e4 e3 (hout.elim (fun z => .inr (.inl z)) fun z => .inr (.inr z))
        refine ⟨u, r, .inr ⟨?_, ?_⟩⟩
        · exact relabel_free (scope := scope) (env := X.env) hyf
        · rcases lk with ⟨k, _⟩ | ⟨_, c, hc, hcell⟩
          · rcases hout with z | z
            · have k' : X.env.scope.names.lookup y = some .local := k
              rw [show X.env.scope.names.lookup y = some .cell from z] at k'; cases k'
            · have k' : X.env.scope.names.lookup y = some .local := k
              rw [show X.env.scope.names.lookup y = some .free from z] at k'; cases k'
          · obtain ⟨c', hc'⟩ := clos_look (env := X.env) hyf
            have e5 := clos_get hcl hc'
            rw [hc] at e5
            cases e5
            obtain ⟨o, ho, hd⟩ := hcell
            exact ⟨c, hc', o, old c o ho, hd⟩
  · obtain ⟨v, o, ho, hd⟩ := I.cell y c (clos_get hcl h1)
    exact ⟨v, o, old c o ho, hd⟩
  · have hp' : p = (D, lobj [] n) := by simpa [Cx.comp] using hp
    subst hp'
    refine ⟨hacc, I.hok.fresh hD, hDC, fun hs => ?_, fun v z => ?_⟩
    · rcases List.mem_cons.mp (I.stkSub _ hs) with z | z
      · exact absurd (show D = X.env.locals from z) (Nat.ne_of_gt (Nat.lt_of_lt_of_le I.lt hD))
      · exact I.nofs hD z
    · have z' : Data.seq _ _ = Data.cell v := z
      cases z'
  · show (none :: pick ix σ).length = (x :: fv).length
    have := congrArg List.length hix
    simp only [List.length_map] at this
    simp [pick, this]
/-- the block's end: the outer frame again, the list is tracked -/
theorem comp_end {pins : List (Addr × Obj)} {σ σ' : St} {H H' : Hp} {s s1 : Shared} {C D : Addr} {fp : List Addr} {h' : Heap} {its : List Value} {ys : List V} {n : Nat} (I : Inv X pins σ H s)
    (hD : s.heap.objs.size ≤ D) (hC : s.heap.objs.size ≤ C) (f2 : ∀ b ∈ fp, FpOk X pins H b)
    (I1 : Inv (X.comp scope (x :: fv) C s H fp) [(D, lobj its n)] σ' H' s1) (hs : Heap.SameBut C s1.heap h') (rv : Vals ys its) (hz : ys.length ≤ sizeLine) :
    Inv X pins σ (upd H' D (.lst ys)) { s1 with heap := h' } ∧ H' D = none := by
  obtain ⟨eD, nD, neD, nfD, _⟩ := I1.pin (D, lobj its n) (by simp [Cx.comp])
  have neDC : D ≠ C := neD
  have hfree : H' C = none := I1.free
  have eD' : h'.get? D = some (lobj its n) := (hs.2 D neDC).trans eD
  have lt : ∀ b o, s.heap.get? b = some o → b ≠ C ∧ b ≠ D := fun b o e => ⟨Nat.ne_of_lt (Nat.lt_of_lt_of_le (Heap.lt_size e) hC), Nat.ne_of_lt (Nat.lt_of_lt_of_le (Heap.lt_size e) hD)⟩
  have U : Un (frs X.stack) fp H H' s.heap s1.heap := I1.base
  have nDof : ∀ b u, H' b = some u → b ≠ D := fun b u e => ne_of_none e nD
  have U' : Un (frs X.stack) fp H (upd H' D (.lst ys)) s.heap h' := by
    refine ⟨fun b o e n hb he => ?_, fun b o e n hb he => ?_, fun b o e n he => ?_, fun b o e he => ?_, fun b xs e => ?_, fun b o u e => ?_, fun b ps e => ?_⟩
    · exact (hs.2 b (lt b o e).1).trans (U.keep b o e n hb he)
    · obtain ⟨sl, q⟩ := U.slot b o e n hb he
      exact ⟨sl, (hs.2 b (lt b o e).1).trans q⟩
    · rw [upd_ne (lt b o e).2]
      exact U.free b o e n he
    · obtain ⟨o', q⟩ := U.there b o e he
      exact ⟨o', (hs.2 b (lt b o e).1).trans q⟩
    · have := U.tups b xs e
      rw [upd_ne (nDof b _ this)]; exact this
    · have := U.frzs b o u e
      rw [upd_ne (nDof b _ this)]; exact this
    · obtain ⟨more, this⟩ := U.tbls b ps e
      exact ⟨more, by rw [upd_ne (nDof b _ this)]; exact this⟩
  have hok : HOk X.prog X.w (upd H' D (.lst ys)) h' := fun b u e => by
    by_cases hb : b = D
    · subst hb
      rw [upd_same] at e
      cases e
      exact ⟨hz, its, n, rv, eD'⟩
    · rw [upd_ne hb] at e
      refine (I1.hok b u e).stay (fun c v hc q => (hs.2 c ?_).trans q) (fun c q => by rw [upd_ne (nDof c _ q)]; exact q) fun c xs q => by rw [upd_ne (nDof c _ q)]; exact q
      rintro rfl
      rcases hc with hc | hc
      · rw [← hc, hfree] at e; cases e
      · rw [hfree] at hc; cases hc
  exact ⟨I.call' (s' := { s1 with heap := h' }) (ch := fp) I1.os U' hok I1.bare fun b hb => ⟨(f2 b hb).2.2.2.1, (f2 b hb).2.1, (f2 b hb).2.2.2.2.1, (f2 b hb).2.2.2.2.2⟩, nD⟩

theorem pe_lc {elt iter : Expr} {ifs : List Expr} {px pos : Pos} {wi : TI} {tt : TT} {te : TE} {osc : Scope} (hc : X.calm = true) (S₀ : LcScope scope x fv osc) (hix : ix.map (fun i => X.N[i]?) = fv.map some) (hi : PI X (.Name x px) iter wi)
    (ht : ∀ (C : Addr) (s₀ : Shared) (H₀ : Hp) (ex : List Addr), PIfs (X.comp scope (x :: fv) C s₀ H₀ ex) ifs tt)
    (he : ∀ (C : Addr) (s₀ : Shared) (H₀ : Hp) (ex : List Addr), PE (X.comp scope (x :: fv) C s₀ H₀ ex) elt te)
    (hosc : X.env.scope = osc := by rfl) (hs : ∀ x, foldedSetIterable iter X.env x = pure x := by intro _; rfl) : PE X (.ListComp elt [⟨.Name x px, iter, ifs, 0⟩] scope pos) (tLC ix wi tt te) := by
  have S : LcScope scope x fv X.env.scope := hosc ▸ S₀
  intro pins s σ H Q I h
  rw [eval_ListComp]
  refine wpAny_comprehension_free (use := none) (cl := closOf scope X.env) rfl hs (closureFor_of (S.cells I.ok)) S.kind S.names ?_
  refine thn (hi pins s σ H _ I h) fun v s1 h1 => thn h1 fun itv s2 h2 => ?_
  obtain ⟨it, fp, tn, J, H2, e, I2, T, st2, f2, W, ⟨m0, w0⟩, turn⟩ := h2
  subst e
  have fl : ∀ b ∈ fp, b < s2.heap.objs.size := fun b hb => by obtain ⟨o, e, _⟩ := T.obj _ _ st2 b hb; exact Heap.lt_size e
  refine wpAny_newObj_type (wpAny_newFunctionEnv S.nocell (by intro y hy; simp at hy) (fun h₁ hns₁ hsb₁ => ?_) S.kind)
  dsimp only at hns₁ hsb₁ ⊢
  generalize hH2 : s2.heap.push { cls := .type "list", dict := none, data := .seq ([] : List Value).toArray } = hp2 at hns₁ hsb₁ ⊢
  have hCe : hp2.objs.size = s2.heap.objs.size + 1 := by rw [← hH2, Heap.size_push]
  generalize hCC : hp2.objs.size = C at hns₁ hsb₁ ⊢
  generalize hDD : s2.heap.objs.size = D at *
  have hDC : D ≠ C := by omega
  have hD : s2.heap.objs.size ≤ D := by omega
  have hC : s2.heap.objs.size ≤ C := by omega
  have nbC : ∀ b : Nat, b < s2.heap.objs.size → b ≠ C := fun b hb => by omega
  have nbD : ∀ b : Nat, b < s2.heap.objs.size → b ≠ D := fun b hb => by omega
  have old : ∀ b o, s2.heap.get? b = some o → h₁.get? b = some o := fun b o e => hsb₁.extBut b o (nbC b (Heap.lt_size e)) (Heap.get?_push_of_some _ (hH2 ▸ Heap.get?_push_of_some _ e))
  have hacc : h₁.get? D = some (lobj [] 0) := hsb₁.extBut _ _ hDC (Heap.get?_push_of_some _ (hH2 ▸ hDD ▸ Heap.get?_push_size _ rfl))
  have st3 : tn 0 h₁ := T.keep _ _ _ st2 fun b _ o e => old b o e
  have I3 : Inv (X.comp scope (x :: fv) C s2 H2 fp) [(D, lobj [] 0)] (none :: pick ix σ) H2 { s2 with heap := h₁, toks := s2.toks + ([] : List (Str × Value)).length } := comp_start S hix I2 hD hDC hC f2 (fun b hb => hDD.symm ▸ fl b hb) hns₁ old hacc
  have fpD : ∀ b ∈ fp, b ≠ D := fun b hb => nbD b (hDD.symm ▸ fl b hb)
  have hcl := S.cells I2.ok
  have stat : ∀ {H' : Hp} {its : List Value} {n : Nat}, (∀ b ∈ fp, H' b = none) → ∀ b ∈ fp, FpOk (X.comp scope (x :: fv) C s2 H2 fp) [(D, lobj its n)] H' b := fun {H' its n} hn b hb => by
    obtain ⟨_, g1, g2, g3, g4, g5⟩ := f2 b hb
    refine ⟨hn b hb, (nbC b (hDD.symm ▸ fl b hb)), fun z => ?_, .inl hb, fun y c h1 => g4 y c (clos_get hcl h1), fun p hp => ?_⟩
    · rcases List.mem_cons.mp (I2.stkSub b z) with z | z
      · exact g1 z
      · exact g2 z
    · have hp' : p = (D, lobj its n) := by simpa [Cx.comp] using hp
      rw [hp']
      exact (fpD b hb).symm
  have loop : ∀ s3 : Shared, s3 = { s2 with heap := h₁, toks := s2.toks + ([] : List (Str × Value)).length } →
      codeAny (model X.prog X.w) X.A (.compLoop (.ListComp elt [⟨.Name x px, iter, ifs, 0⟩] scope pos) 0 (.ref it) (.ref D) (compEnvC scope (closOf scope X.env) C X.env))
        (compPost (model X.prog X.w) X.A X.xe none (EP X pins σ Q) (.ref D) C) s3 := by
    rintro s3 rfl
    refine codeAny_compLoop_own (fun n s' => ∃ i ys its k H' o', Inv (X.comp scope (x :: fv) C s2 H2 fp) [(D, lobj its k)] (o' :: pick ix σ) H' s' ∧ tn i s'.heap ∧ (∀ b ∈ fp, H' b = none) ∧ Vals ys its ∧ ys.length ≤ sizeLine ∧ W i n ys H') ?_ m0
      ⟨0, [], [], 0, H2, none, I3, st3, fun b hb => (f2 b hb).1, .nil, Nat.zero_le _, w0⟩
    rintro n s4 ⟨i, ys, its, k, H4, o4, I4, st4, fr4, rv4, hz4, w4⟩
    rcases turn i n ys H4 w4 with ⟨stop, q⟩ | ⟨go, hlt, step⟩
    · refine thn (T.done (X.comp scope (x :: fv) C s2 H2 fp) rfl rfl rfl hc i _ s4 _ H4 _ I4 (stat fr4) st4 stop) fun r s5 ⟨hr, I5⟩ => ?_
      subst hr
      obtain ⟨m5, hn5, _⟩ := id I5.loc
      refine ⟨m5, hn5, fun h6 hs6 => ?_⟩
      obtain ⟨I6, nD⟩ := comp_end I2 hD hC f2 I5 hs6 rv4 hz4
      exact ⟨.ref D, _, I6, rfl, q D nD⟩
    · refine thn (T.item (X.comp scope (x :: fv) C s2 H2 fp) rfl rfl rfl hc i _ s4 _ H4 _ I4 (stat fr4) st4 go) fun r s5 ⟨u, hr, h5⟩ => ?_
      subst hr
      refine thn h5 fun _ s6 ⟨xv, H6, I6, r6, y6, st6, fr6⟩ => ?_
      have I6' := I6.pinned (stat fr6) (T.obj _ _ st6)
      refine wpAny_assign_Name (store_ok (i := 0) I6' S.nd rfl (.inl (lookup_relabel_local S.tgt)) r6 (fun s7 I7 => ?_) (.inr (lookup_relabel_local S.tgt)))
      refine thn (ht C s2 H2 fp _ s7 _ H6 _ I7 (step xv H6 y6)) fun b s8 ⟨H8, I8, q8⟩ => ?_
      have keepT : ∀ {H9 : Hp} {σ9 : St} {s9 : Shared} (I9 : Inv (X.comp scope (x :: fv) C s2 H2 fp) ([(D, lobj its k)] ++ pinsAt fp s6.heap) σ9 H9 s9), (∀ b ∈ fp, ∀ o, s6.heap.get? b = some o → s9.heap.get? b = some o ∧ H9 b = none) := fun {H9 σ9 s9} I9 b hb o e =>
        ⟨(I9.pin (b, o) (List.mem_append_right _ (List.mem_append_right _ (mem_pinsAt hb e)))).1, (I9.pin (b, o) (List.mem_append_right _ (List.mem_append_right _ (mem_pinsAt hb e)))).2.1⟩
      cases b with
      | false =>
        rw [if_neg Bool.false_ne_true] at q8 ⊢
        obtain ⟨m', hm, w8⟩ := q8
        refine ⟨m', hm, i + 1, ys, its, k, H8, some xv, I8.unpinned, T.keep _ _ _ st6 fun b hb o e => (keepT I8 b hb o e).1, fun b hb => ?_, rv4, hz4, w8⟩
        obtain ⟨o, e, _⟩ := T.obj _ _ st6 b hb
        exact (keepT I8 b hb o e).2
      | true =>
        rw [if_pos rfl] at q8 ⊢
        refine thn (he C s2 H2 fp _ s8 _ H8 _ I8 q8) fun y s9 ⟨yv, H9, I9, r9, q9⟩ => ?_
        obtain ⟨m', hm, w9⟩ := q9
        obtain ⟨eD, nD, neD, nfD, _⟩ := I9.pin (D, lobj its k) (by simp [Cx.comp])
        have hlen := rv4.length
        refine wpAny_list_append_plain (items := its.toArray) ⟨k, eD⟩ (fun h10 hp10 hs10 => ?_) (by rw [List.size_toArray]; omega)
        obtain ⟨k', e10⟩ := hp10
        have J9 : Inv (X.comp scope (x :: fv) C s2 H2 fp) (pinsAt fp s6.heap) (some xv :: pick ix σ) H9 s9 := I9.pins_of fun p hp => I9.pin p (List.mem_append_right _ (List.mem_append_right _ hp))
        have J10 : Inv (X.comp scope (x :: fv) C s2 H2 fp) (pinsAt fp s6.heap) (some xv :: pick ix σ) H9 { s9 with heap := h10 } :=
          J9.turned (t' := s9.toks) (it := D) (fun b o hb e => (hs10.2 b hb).trans e) nD neD (.inr hD) (fun y c h1 z => by
            obtain ⟨_, o, ho, _⟩ := I2.cell y c (clos_get hcl h1)
            exact nbD c (Heap.lt_size ho) z) (fun p hp z => by
            obtain ⟨hb, _⟩ := of_pinsAt (show p ∈ pinsAt fp s6.heap by simpa [Cx.comp] using hp)
            exact fpD p.1 hb z)
        have e10' : h10.get? D = some (lobj (its ++ [y]) k') := by
          rw [e10]
          simp [lobj]
        refine ⟨m', hm, i + 1, ys ++ [yv], its ++ [y], k', H9, some xv, J10.pins_of fun p hp => ?_, T.keep _ _ _ st6 fun b hb o e => (hs10.2 b (fpD b hb)).trans (keepT I9 b hb o e).1, fun b hb => ?_, rv4.append (.cons r9 .nil), ?_, w9⟩
        · have hp' : p = (D, lobj (its ++ [y]) k') := by simpa using hp
          subst hp'
          exact ⟨e10', nD, neD, nfD, fun v z => by have z' : Data.seq _ _ = Data.cell v := z; cases z'⟩
        · obtain ⟨o, e, _⟩ := T.obj _ _ st6 b hb
          exact (keepT I9 b hb o e).2
        · rw [List.length_append, List.length_singleton]; omega
  exact codeAny_compStart_list (loop _ rfl) (T.self _ 0 _ _ _ st3 (loop _ rfl))
end

/-! ### the forms one uses: the items are known, the elements leave the heap as it is -/
theorem lc_pure {J : It} {n : Nat} {Q : VK} {ix : List Nat} {tt : TT} {te : TE} {σ : St} {H : Hp} (item f : Nat → V) (keep : Nat → Bool) (hn : n ≤ sizeLine) (hgo : ∀ i, i < n → J.go i H) (hyld : ∀ i x H', i < n → J.yld i H x H' → x = item i ∧ H' = H) (hstop : J.stop n H)
    (hT : ∀ i, i < n → ∀ R : Bool → Hp → Prop, R (keep i) H → tt (some (item i) :: pick ix σ) H R) (hE : ∀ i, i < n → keep i = true → ∀ R : VK, R (f i) H → te (some (item i) :: pick ix σ) H R)
    (hQ : ∀ D, H D = none → Q (.ref D) (upd H D (.lst (((List.range n).filter keep).map f)))) :
    LcW J ix σ tt te Q H := by
  refine ⟨fun i m ys H2 => m = n - i ∧ i ≤ n ∧ ys = ((List.range i).filter keep).map f ∧ H2 = H, ⟨n, by simp, Nat.zero_le _, by simp, rfl⟩, ?_⟩
  rintro i m ys H2 ⟨rfl, hi, rfl, rfl⟩
  by_cases hlt : i < n
  · refine .inr ⟨hgo i hlt, ?_, ?_⟩
    · rw [List.length_map]
      have h1 : ((List.range i).filter keep).length ≤ (List.range i).length := List.length_filter_le _ _
      rw [List.length_range] at h1
      omega
    · intro x H3 y
      obtain ⟨rfl, rfl⟩ := hyld i x H3 hlt y
      refine hT i hlt _ ?_
      cases hk : keep i with
      | true =>
        rw [if_pos rfl]
        refine hE i hlt hk _ ⟨n - (i + 1), by omega, rfl, hlt, ?_, rfl⟩
        rw [List.range_succ, List.filter_append, List.map_append]
        simp [hk]
      | false =>
        rw [if_neg Bool.false_ne_true]
        refine ⟨n - (i + 1), by omega, rfl, hlt, ?_, rfl⟩
        rw [List.range_succ, List.filter_append, List.map_append]
        simp [hk]
  · have e : i = n := by omega
    subst e
    exact .inl ⟨hstop, hQ⟩
theorem range_pick {α β : Type} (xs : List α) (d : α) (p : α → Bool) (f : α → β) : ((List.range xs.length).filter fun i => p (xs.getD i d)).map (fun i => f (xs.getD i d)) = (xs.filter p).map f := by
  have e : (List.range xs.length).map (fun i => xs.getD i d) = xs := by
    apply List.ext_getElem
    · simp
    · intro i h1 h2
      simp [List.getD_eq_getElem?_getD, List.getElem?_eq_getElem h2]
  have e2 : ((List.range xs.length).filter fun i => p (xs.getD i d)).map (fun i => xs.getD i d) = xs.filter p := by
    have := List.filter_map (f := fun i => xs.getD i d) (p := p) (l := List.range xs.length)
    rw [e] at this
    exact this.symm
  rw [← e2, List.map_map]
  rfl
section
variable {Q : VK} {ix : List Nat} {tt : TT} {te : TE} {σ : St} {H : Hp}
/-- over a text -/
theorem lc_str {z : Str} (f : Nat → V) (keep : Nat → Bool) (hz : z.cps.size ≤ sizeLine)
    (hT : ∀ c ∈ z.cps.toList, ∀ R : Bool → Hp → Prop, R (keep c) H → tt (some (.str ⟨#[c]⟩) :: pick ix σ) H R) (hE : ∀ c ∈ z.cps.toList, keep c = true → ∀ R : VK, R (f c) H → te (some (.str ⟨#[c]⟩) :: pick ix σ) H R)
    (hQ : ∀ D, H D = none → Q (.ref D) (upd H D (.lst ((z.cps.toList.filter keep).map f)))) :
    LcW (Its z) ix σ tt te Q H := by
  have hmem : ∀ i, i < z.cps.size → z.cps.toList.getD i 0 ∈ z.cps.toList := fun i hi => by
    have h2 : i < z.cps.toList.length := by simpa using hi
    rw [List.getD_eq_getElem?_getD, List.getElem?_eq_getElem h2]
    exact List.getElem_mem h2
  refine lc_pure (J := Its z) (n := z.cps.size) (fun i => .str ⟨#[z.cps.toList.getD i 0]⟩) (fun i => f (z.cps.toList.getD i 0)) (fun i => keep (z.cps.toList.getD i 0)) hz (fun i hi => hi) (fun i x H' hi y => ?_) rfl (fun i hi R h => hT _ (hmem i hi) R h) (fun i hi hk R h => hE _ (hmem i hi) hk R h) ?_
  · obtain ⟨rfl, c, hc, rfl⟩ := y
    refine ⟨?_, rfl⟩
    have hc' : z.cps.toList[i]? = some c := by simpa using hc
    rw [List.getD_eq_getElem?_getD, hc']
    rfl
  · have e := range_pick z.cps.toList 0 keep f
    have e2 : z.cps.toList.length = z.cps.size := by simp
    rw [e2] at e
    rw [e]
    exact hQ
end
end L2

set_option Elab.async false
set_option linter.all false
set_option maxRecDepth 100000
set_option maxHeartbeats 4000000
namespace L2
open PySem PySem.Spec PyProof.Rows
section
variable {X : Cx} {a b : Expr} {ta tb : TE} {pos : Pos}
/-! ### is, is not of truths -/
theorem op_is_bl : OpR X (compareOp .Is) (fun x y H Q => ∃ i j, x = .bl i ∧ y = .bl j ∧ Q (.bl (i == j)) H) := by
  intro pins s σ H x y v u Q I rx ry h
  obtain ⟨i, j, rfl, rfl, q⟩ := h
  cases rx
  cases ry
  exact is_bool ⟨.bl (i == j), H, I, rfl, q⟩
/-! ### texts -/
theorem op_le_str : OpR X (compareOp .LtE) (fun x y H Q => ∃ i j, x = .str i ∧ y = .str j ∧ Q (.bl (!decide (j.cps.toList < i.cps.toList))) H) := by
  intro pins s σ H x y v u Q I rx ry h
  obtain ⟨i, j, rfl, rfl, q⟩ := h
  obtain ⟨t, rfl⟩ := rx
  obtain ⟨t', rfl⟩ := ry
  exact PySem.P.le_str (fin_bl I q rfl)
theorem op_mul_str : OpR X (binaryOp .Mult) (fun x y H Q => ∃ z n, x = .str z ∧ y = .int n ∧ MulOk z n ∧ Q (.str (Txt.mul z n)) H) := by
  intro pins s σ H x y v u Q I rx ry h
  obtain ⟨z, n, rfl, rfl, hm, q⟩ := h
  obtain ⟨t, rfl⟩ := rx
  obtain ⟨t', rfl⟩ := ry
  exact SB.mul hm fun t' k => ⟨.str (Txt.mul z n), H, I.tok _, ⟨_, rfl⟩, q⟩
def rSlS : V → Option Int → Option Int → Hp → VK → Prop := fun x lo hi H Q => ∃ z, x = .str z ∧ z.length ≤ sizeLine ∧ Q (.str (Txt.slice z lo hi)) H
theorem part_opt {v : Value} {o : Option Int} (p : IsPart v o) : ∃ l : Option (Int × Tok), v = partValue l ∧ l.map (·.1) = o := by
  cases p with
  | none => exact ⟨none, rfl, rfl⟩
  | int i t => exact ⟨some (i, t), rfl, rfl⟩
theorem sl_str : SlR X rSlS := by
  intro pins s σ H x v vl vu lo hi sl Q I rx hs pl pu h
  obtain ⟨z, rfl, hz, q⟩ := h
  obtain ⟨t, rfl⟩ := rx
  obtain ⟨l, rfl, el⟩ := part_opt pl
  obtain ⟨u, rfl, eu⟩ := part_opt pu
  subst el eu
  refine ⟨"str", _, F.slot_str_getitem.lookup, typeIs_str _ _ _, wpAny_getItem_str_slice (l := l) (u := u) (st := none) hs rfl ?_⟩
  exact post_val_or_str ⟨Nat.le_trans (Txt.slice_le z _ _) hz, fun t' k => ⟨.str (Txt.slice z (l.map (·.1)) (u.map (·.1))), H, I.tok _, ⟨_, rfl⟩, q⟩⟩
/-! ### all of a list of truths -/
theorem bools_of : ∀ {bs : List Bool} {us : List Value}, Vals (bs.map V.bl) us → LSm.BoolsAre us bs
  | [], _, r => by rw [List.map_nil] at r; cases r; exact .nil
  | b :: bs, _, r => by
    rw [List.map_cons] at r
    cases r with
    | cons r1 r2 =>
      cases (show _ = Value.bool b from r1)
      exact .cons b (bools_of r2)
theorem call_all (hc : X.calm = true) : CallR X (.builtin "all") (fun xs H Q => ∃ (p : Addr) (bs : List Bool), xs = [.ref p] ∧ SqL X.K H p (bs.map V.bl) ∧ Q (.bl (bs.all id)) H) := by
  intro pins s σ H xs us Q I r h
  obtain ⟨p, bs, rfl, hp, q⟩ := h
  obtain ⟨u, rfl, ru⟩ := vals1 r
  cases ru
  obtain ⟨its, rv, pl, hz⟩ := I.list hp
  have hb := bools_of rv
  have hl := pl.isList
  have hlt : p < s.heap.objs.size := by obtain ⟨_, e, _⟩ := hl; exact Heap.lt_size e
  have hh : X.A.handled = none := I.ok.hd hc
  refine call_all_walk (wpAny_pyIter_list hl ?_)
  refine ⟨s.heap.objs.size, [s.heap.objs.size, p], [s.heap.objs.size], its.toArray.size, _, _, fun i => (bs[i]?).getD true, rfl, Walks.list (A := X.A.in1) hh _ p (Nat.ne_of_lt hlt) its.toArray,
    ⟨⟨_, Heap.get?_push_size _ rfl, rfl, rfl⟩, hl.push _⟩, fun i v s' Q' E' hP hQ => ?_, fun h' tk hk => ?_⟩
  · obtain ⟨b, e, rfl⟩ := hb.get i v (by simpa using hP)
    simp only [e, Option.getD_some] at hQ
    exact wpAny_truthy_bool hQ
  · have e : ((List.range its.toArray.size).all fun i => (bs[i]?).getD true) = bs.all id := by
      rw [List.size_toArray, hb.length]; exact LSm.range_all bs
    rw [e]
    exact ⟨.bl (bs.all id), H, I.kept (LSm.kept_iter hk), rfl, q⟩
/-! ### isinstance of a built-in class -/
theorem call_isinst : CallR X (.builtin "isinstance") (fun xs H Q => ∃ x T t b, xs = [x, .ty T] ∧ TyOf X.K H x t ∧ PySem.W.kitOne X.K t (.type T) = some b ∧ Q (.bl b) H) := by
  intro pins s σ H xs us Q I r h
  obtain ⟨x, T, t, b, rfl, ty, hk, q⟩ := h
  obtain ⟨u, w', rfl, ru, rw'⟩ := vals2 r
  cases (show w' = Value.type T from rw')
  exact isinst_ok I ru ty hk fun tk => ⟨.bl b, H, I.tok tk, rfl, q⟩
end
end L2

set_option Elab.async false
set_option linter.all false
set_option maxRecDepth 100000
set_option maxHeartbeats 4000000
namespace L2
open PySem PySem.Spec PyProof.Rows
/-! ### a def of the top, by its name -/
structure Fn (K : PySem.W.Frag) (mg : Str → Option Value) (x : Str) (st : Stmt) (ps : List Str) (f : Addr) (fd : FuncData) : Prop where
  fu : Fun K x x st f fd
  mgx : mg x = some (.ref f)
  bd : Binds K fd ps []
def HasFn (K : PySem.W.Frag) (mg : Str → Option Value) (x : Str) (st : Stmt) (ps : List Str) : Prop := ∃ f fd, Fn K mg x st ps f fd
section
variable {X : Cx} {x : Str} {st : Stmt} {ps : List Str} {f : Addr} {fd : FuncData} {k : Nat} {sp : Sp} {e : Expr} {es : List Expr} {t : TA} {p pos : Pos}
theorem pe_fn (N : Fn X.K X.mg x st ps f fd) (G : FnOk X.prog X.w X.K X.mg X.base CX0 k f fd ps sp) (hr : Room k X.A) (ha : PA X (e :: es) t) (hg : Gl X x := by rfl)
    (hdb : (x == ("__debug__" : Str)) = false := by decide) (he : starEach (e :: es) X.env = (false, eval e X.env) :: starEach es X.env := by rfl) (hpl : (backTo pos (starEach es X.env)).any (·.1) = false := by rfl) :
    PE X (.Call (.Name x p) (e :: es) [] pos) (tCall sp [] E0 t) := pe_call G hr hg N.mgx N.fu.kp N.bd .nil pass0 ha hdb he hpl
theorem pe_gl {v : V} (h : ∃ u, X.mg x = some u ∧ RelV v u) (hg : Gl X x := by rfl) (hd : (x == ("__debug__" : Str)) = false := by decide) : PE X (.Name x pos) (tC v) := by
  obtain ⟨u, h1, h2⟩ := h
  exact pe_glob hg h1 h2 hd
theorem pe_ty {T : String} (hm : X.mg x = none) (hv : bootBuiltins x = some (.type T)) (hg : Gl X x := by rfl) (hn : x ≠ "__name__" := by decide) (hd : (x == ("__debug__" : Str)) = false := by decide) : PE X (.Name x pos) (tC (.ty T)) :=
  pe_bltn hg hm hv rfl hn hd
end
/-! ### signs -/
def okSign (c : Nat) : Bool := decide (32 ≤ c ∧ c ≤ 126)
def plainB (z : Str) (lo hi : Int) : Bool := decide (lo ≤ z.length ∧ (z.length : Int) ≤ hi) && z.cps.toList.all okSign
/-- a thing that is no text -/
def NotStr (K : PySem.W.Frag) (H : Hp) (v : V) : Prop := ∃ t, TyOf K H v t ∧ PySem.W.kitOne K t (.type "str") = some false
end L2

set_option Elab.async false
set_option linter.all false
set_option maxRecDepth 100000
set_option maxHeartbeats 4000000
namespace L2
open PySem PySem.Spec PyProof.Rows PySem.SeqAt
section
variable {X : Cx}
/-- what is no number -/
inductive NoNum (H : Hp) : V → Prop where
  | non : NoNum H .non
  | str (x : Str) : NoNum H (.str x)
  | lst {a : Addr} {xs : List V} (e : H a = some (.lst xs)) : NoNum H (.ref a)
  | tup {a : Addr} {xs : List V} (e : H a = some (.tup xs)) : NoNum H (.ref a)
  | dK {a : Addr} {kvs : List (Key × V)} (e : H a = some (.dK kvs)) : NoNum H (.ref a)
end
end L2

set_option Elab.async false
set_option linter.all false
set_option maxRecDepth 100000
set_option maxHeartbeats 4000000
namespace L2
open PySem PySem.Spec PyProof.Rows
/-! ### arguments without a star, seen by the expression's head alone -/
def isStar : Expr → Bool
  | .Starred .. => true
  | _ => false
theorem star_cons {e : Expr} {es : List Expr} {env : Env} (h : isStar e = false) : starEach (e :: es) env = (false, eval e env) :: starEach es env := by
  cases e <;> first
    | rfl
    | (have h' : true = false := h; cases h')
def noStar : List Expr → Bool
  | [] => true
  | e :: es => !isStar e && noStar es
theorem star_any {pos : Pos} {env : Env} : ∀ {es : List Expr}, noStar es = true → (backTo pos (starEach es env)).any (·.1) = false
  | [], _ => rfl
  | e :: es, h => by
    have h' : (!isStar e && noStar es) = true := h
    rw [Bool.and_eq_true] at h'
    have h1 : isStar e = false := by simpa using h'.1
    rw [star_cons h1]
    show (false || (backTo pos (starEach es env)).any (·.1)) = false
    rw [star_any h'.2]
    rfl
section
variable {X : Cx} {x : Str} {st : Stmt} {ps : List Str} {f : Addr} {fd : FuncData} {k : Nat} {sp : Sp} {e : Expr} {es : List Expr} {t : TA} {te : TE} {p pos : Pos} {id T : String} {r : List V → Hp → VK → Prop}
theorem pa_c (ha : PE X e te) (hr : PA X es t) (h : isStar e = false := by rfl) : PA X (e :: es) (tCons te t) := pa_cons ha hr (star_cons h)
theorem pe_f (N : Fn X.K X.mg x st ps f fd) (G : FnOk X.prog X.w X.K X.mg X.base CX0 k f fd ps sp) (hr : Room k X.A) (ha : PA X (e :: es) t) (hg : Gl X x := by rfl) (hdb : (x == ("__debug__" : Str)) = false := by decide) (h1 : isStar e = false := by rfl) (h2 : noStar es = true := by rfl) :
    PE X (.Call (.Name x p) (e :: es) [] pos) (tCall sp [] E0 t) := pe_fn N G hr ha hg hdb (star_cons h1) (star_any h2)
theorem pe_b (hc : CallR X (.builtin id) r) (hm : X.mg x = none) (hv : bootBuiltins x = some (.builtin id)) (ha : PA X (e :: es) t) (hg : Gl X x := by rfl) (hn : x ≠ "__name__" := by decide) (hdb : (x == ("__debug__" : Str)) = false := by decide) (h1 : isStar e = false := by rfl) (h2 : noStar es = true := by rfl) :
    PE X (.Call (.Name x p) (e :: es) [] pos) (tCB r t) := pe_callB hc hg hm hv ha hn hdb (star_cons h1) (star_any h2)
theorem pe_t (hc : CallR X (.type T) r) (hm : X.mg x = none) (hv : bootBuiltins x = some (.type T)) (ha : PA X (e :: es) t) (hg : Gl X x := by rfl) (hn : x ≠ "__name__" := by decide) (hdb : (x == ("__debug__" : Str)) = false := by decide) (h1 : isStar e = false := by rfl) (h2 : noStar es = true := by rfl) :
    PE X (.Call (.Name x p) (e :: es) [] pos) (tCB r t) := pe_callTy hc hg hm hv ha hn hdb (star_cons h1) (star_any h2)
theorem pi_r1 {tg a : Expr} {ta : TA} (hm : X.mg "range" = none) (ha : PA X [a] ta) (hg : Gl X "range" := by rfl) (h1 : isStar a = false := by rfl) : PI X tg (.Call (.Name "range" p) [a] [] pos) (iRng1 ta) := pi_range1 hg hm ha (by rw [star_cons h1]; rfl)
theorem pi_r2 {tg a b : Expr} {ta : TA} (hm : X.mg "range" = none) (ha : PA X [a, b] ta) (hg : Gl X "range" := by rfl) (h1 : isStar a = false := by rfl) (h2 : isStar b = false := by rfl) : PI X tg (.Call (.Name "range" p) [a, b] [] pos) (iRng2 ta) := pi_range2 hg hm ha (by rw [star_cons h1, star_cons h2]; rfl) (by rw [star_cons h2]; rfl)
end
end L2

set_option Elab.async false
set_option linter.all false
set_option maxRecDepth 100000
set_option maxHeartbeats 4000000
namespace L2
open PySem PySem.Spec PyProof.Rows
theorem len_list (z : Str) : z.length = z.cps.toList.length := by simp [Str.length]
theorem app_list (x y : Str) : (x ++ y).cps.toList = x.cps.toList ++ y.cps.toList := by
  show (x.cps ++ y.cps).toList = _
  simp
end L2
namespace L2
open PySem PySem.Spec PyProof.Rows
theorem slice_from {z : Str} {j : Int} (h0 : 0 ≤ j) (h1 : j ≤ z.length) : (Txt.slice z (some j) none).cps.toList = z.cps.toList.drop j.toNat := by
  have e := slice_closes_from (x := z) (i := j) ⟨h0, by rw [← len_list]; exact h1⟩
  rw [eq_of_beq e]
  show ((z.cps.toList.drop j.toNat).take ((z.cps.toList.length : Int) - j).toNat) = _
  apply List.take_of_length_le
  rw [List.length_drop]
  omega
end L2
namespace L2
open PySem PySem.Spec PyProof.Rows
section
variable {K : PySem.W.Frag}
theorem TyOf.same {H H' : Hp} {v : V} {t : Value} (ty : TyOf K H v t) (s : Same H H') : TyOf K H' v t := by
  cases ty with
  | non => exact .non
  | bl x => exact .bl x
  | int i => exact .int i
  | str x => exact .str x
  | flt x => exact .flt x
  | lst e => exact .lst (s _ _ e)
  | frz e => exact .frz (s _ _ e)
  | tup e => exact .tup (s _ _ e)
  | dK e => exact .dK (s _ _ e)
  | dT e => exact .dT (s _ _ e)
  | ins e cl ha hn htk hm => exact .ins (s _ _ e) cl ha hn htk hm
theorem NotStr.same {H H' : Hp} {v : V} (h : NotStr K H v) (s : Same H H') : NotStr K H' v := by
  obtain ⟨t, ty, k⟩ := h
  exact ⟨t, ty.same s, k⟩
theorem NoNum.same {H H' : Hp} {v : V} (h : NoNum H v) (s : Same H H') : NoNum H' v := by
  cases h with
  | non => exact .non
  | str x => exact .str x
  | lst e => exact .lst (s _ _ e)
  | tup e => exact .tup (s _ _ e)
  | dK e => exact .dK (s _ _ e)
end
end L2

set_option Elab.async false
set_option linter.all false
set_option maxRecDepth 100000
set_option maxHeartbeats 4000000
namespace L2
open PySem PySem.Spec PyProof.Rows
/-! ### rules for whatever kinds the operands are of -/
section
variable {X : Cx}
def rAddP (K : PySem.W.Frag) : R2 := fun x y H Q => rI0 (fun i j => .int (i + j)) x y H Q ∨ (∃ i j, x = .str i ∧ y = .str j ∧ i.length + j.length ≤ sizeLine ∧ Q (.str (i ++ j)) H) ∨ rCat x y H Q ∨ rCatT K x y H Q
theorem o_add : OpR X (binaryOp .Add) (rAddP X.K) := op_add.or (op_add_str.or (op_cat.or op_catT))
def rMulP : R2 := fun x y H Q => rI CMul (fun i j => .int (i * j)) x y H Q ∨ (∃ z n, x = .str z ∧ y = .int n ∧ MulOk z n ∧ Q (.str (Txt.mul z n)) H) ∨ rRep x y H Q
theorem o_mul : OpR X (binaryOp .Mult) rMulP := op_mul.or (op_mul_str.or op_rep)
def rLtP : R2 := fun x y H Q => rI0 (fun i j => .bl (decide (i < j))) x y H Q ∨ (∃ i j, x = .str i ∧ y = .str j ∧ Q (.bl (decide (i.cps.toList < j.cps.toList))) H)
theorem o_lt : OpR X (compareOp .Lt) rLtP := op_lt.or op_lt_str
def rLeP : R2 := fun x y H Q => rI0 (fun i j => .bl (decide (i ≤ j))) x y H Q ∨ (∃ i j, x = .str i ∧ y = .str j ∧ Q (.bl (!decide (j.cps.toList < i.cps.toList))) H)
theorem o_le : OpR X (compareOp .LtE) rLeP := op_le.or op_le_str
def rSlP (K : PySem.W.Frag) : V → Option Int → Option Int → Hp → VK → Prop := fun x lo hi H Q => rSlS x lo hi H Q ∨ rSlL K x lo hi H Q ∨ rSlT K x lo hi H Q
theorem s_any : SlR X (rSlP X.K) := sl_str.or (sl_list.or sl_tup)
end
/-! ### how a reading is gone along, by the head of what is asked -/
section
variable {X : Cx} {K : PySem.W.Frag} {σ : St} {H : Hp} {D : Ends} {Q : VK} {E : XK}
theorem rd_mod {i j : Int} (hc : 0 < j) (h : Q (.int (i % j)) H) : rI (fun _ j => 0 < j) (fun i j => .int (i % j)) (.int i) (.int j) H Q := ⟨i, j, rfl, rfl, hc, h⟩
theorem rd_fdiv {i j : Int} (hc : 0 < j ∧ j < 1073741824) (h : Q (.int (i / j)) H) : rI CDiv (fun i j => .int (i / j)) (.int i) (.int j) H Q := ⟨i, j, rfl, rfl, hc, h⟩
theorem rd_pow {i j : Int} (hc : 0 ≤ j ∧ j ≤ 1000000 ∧ i.natAbs < 2 ^ 64) (h : Q (.int (i ^ j.toNat)) H) : rI CPow (fun i j => .int (i ^ j.toNat)) (.int i) (.int j) H Q := ⟨i, j, rfl, rfl, hc, h⟩
theorem rd_shr {i j : Int} (hc : 0 ≤ j) (h : Q (.int (i / 2 ^ j.toNat)) H) : rI (fun _ j => 0 ≤ j) (fun i j => .int (i / 2 ^ j.toNat)) (.int i) (.int j) H Q := ⟨i, j, rfl, rfl, hc, h⟩
theorem rd_addI {i j : Int} (h : Q (.int (i + j)) H) : rAddP K (.int i) (.int j) H Q := .inl ⟨i, j, rfl, rfl, h⟩
theorem rd_addS {i j : Str} (hz : i.length + j.length ≤ sizeLine) (h : Q (.str (i ++ j)) H) : rAddP K (.str i) (.str j) H Q := .inr (.inl ⟨i, j, rfl, rfl, hz, h⟩)
theorem same_new {p : Addr} {o : HO} (h : H p = none) : Same H (upd H p o) := fun b u e => by rw [upd_ne (ne_of_none e h)]; exact e
theorem rd_addL {l b : Addr} {xs ys : List V} (h1 : H l = some (.lst xs)) (h2 : H b = some (.lst ys)) (hz : xs.length + ys.length ≤ sizeLine) (h : ∀ p H1, H p = none → Same H H1 → H1 p = some (.lst (xs ++ ys)) → Q (.ref p) H1) : rAddP K (.ref l) (.ref b) H Q :=
  .inr (.inr (.inl ⟨l, b, xs, ys, rfl, rfl, h1, h2, hz, fun p hp => h p _ hp (same_new hp) upd_same⟩))
theorem rd_addT {l b : Addr} {xs ys : List V} (h1 : H l = some (.tup xs)) (h2 : H b = some (.tup ys)) (hx : xs ≠ []) (hz : xs.length + ys.length ≤ sizeLine) (h : ∀ p H1, Same H H1 → H1 p = some (.tup (xs ++ ys)) → Q (.ref p) H1) : rAddP K (.ref l) (.ref b) H Q := by
  refine .inr (.inr (.inr ⟨l, b, xs, ys, rfl, rfl, .of h1, .of h2, hx, hz, fun e => ?_, fun _ p hp => h p _ (same_new hp) upd_same⟩))
  refine h l H (Same.refl H) ?_
  rw [e, List.append_nil]
  exact h1
theorem rd_mulI {i j : Int} (hc : CMul i j) (h : Q (.int (i * j)) H) : rMulP (.int i) (.int j) H Q := .inl ⟨i, j, rfl, rfl, hc, h⟩
theorem rd_mulS {z : Str} {n : Int} (hc : MulOk z n) (h : Q (.str (Txt.mul z n)) H) : rMulP (.str z) (.int n) H Q := .inr (.inl ⟨z, n, rfl, rfl, hc, h⟩)
theorem rd_ltI {i j : Int} (h : Q (.bl (decide (i < j))) H) : rLtP (.int i) (.int j) H Q := .inl ⟨i, j, rfl, rfl, h⟩
theorem rd_ltS {i j : Str} (h : Q (.bl (decide (i.cps.toList < j.cps.toList))) H) : rLtP (.str i) (.str j) H Q := .inr ⟨i, j, rfl, rfl, h⟩
theorem rd_leI {i j : Int} (h : Q (.bl (decide (i ≤ j))) H) : rLeP (.int i) (.int j) H Q := .inl ⟨i, j, rfl, rfl, h⟩
theorem rd_leS {i j : Str} (h : Q (.bl (!decide (j.cps.toList < i.cps.toList))) H) : rLeP (.str i) (.str j) H Q := .inr ⟨i, j, rfl, rfl, h⟩
end
end L2

set_option Elab.async false
set_option linter.all false
set_option maxRecDepth 100000
set_option maxHeartbeats 4000000
namespace L2
open PySem PySem.Spec PyProof.Rows PySem.SeqAt
/-! ### plain data, and how it lies on the heap -/
inductive D where
  | non | bl (b : Bool) | int (i : Int) | str (x : Str) | lst (xs : List D) | tup (xs : List D) | dct
mutual
def Rep (H : Hp) : D → V → Prop
  | .non, v => v = .non
  | .bl b, v => v = .bl b
  | .int i, v => v = .int i
  | .str x, v => v = .str x
  | .lst ds, v => ∃ a vs, v = .ref a ∧ H a = some (.lst vs) ∧ Reps H ds vs
  | .tup ds, v => ∃ a vs, v = .ref a ∧ H a = some (.tup vs) ∧ Reps H ds vs
  | .dct, v => ∃ a kvs, v = .ref a ∧ H a = some (.dK kvs)
def Reps (H : Hp) : List D → List V → Prop
  | [], vs => vs = []
  | d :: ds, vs => ∃ v r, vs = v :: r ∧ Rep H d v ∧ Reps H ds r
end
mutual
def pyEq : D → D → Bool
  | .non, .non => true
  | .bl a, .bl b => a == b
  | .bl a, .int i => (if a then 1 else 0) == i
  | .int i, .bl a => i == (if a then 1 else 0)
  | .int i, .int j => i == j
  | .str x, .str y => x == y
  | .lst xs, .lst ys => pyEqs xs ys
  | .tup xs, .tup ys => pyEqs xs ys
  | .dct, .dct => true
  | _, _ => false
def pyEqs : List D → List D → Bool
  | [], [] => true
  | x :: xs, y :: ys => pyEq x y && pyEqs xs ys
  | _, _ => false
end
mutual
def D.dep : D → Nat
  | .lst ds => D.deps ds + 1
  | .tup ds => D.deps ds + 1
  | .dct => 1000
  | _ => 0
def D.deps : List D → Nat
  | [] => 0
  | d :: ds => max (D.dep d) (D.deps ds)
end
theorem Reps.length {H : Hp} : ∀ {ds : List D} {vs : List V}, Reps H ds vs → ds.length = vs.length
  | [], vs, h => by simp only [Reps] at h; subst h; rfl
  | d :: ds, vs, h => by
    simp only [Reps] at h
    obtain ⟨v, r, rfl, _, h⟩ := h
    rw [List.length_cons, List.length_cons, Reps.length h]
mutual
theorem Rep.same {H H' : Hp} (s : Same H H') : ∀ {d : D} {v : V}, Rep H d v → Rep H' d v
  | .non, v, h => by simp only [Rep] at h ⊢; exact h
  | .bl b, v, h => by simp only [Rep] at h ⊢; exact h
  | .int b, v, h => by simp only [Rep] at h ⊢; exact h
  | .str b, v, h => by simp only [Rep] at h ⊢; exact h
  | .lst ds, v, h => by simp only [Rep] at h ⊢; obtain ⟨a, vs, e, h1, h2⟩ := h; exact ⟨a, vs, e, s _ _ h1, Reps.same s h2⟩
  | .tup ds, v, h => by simp only [Rep] at h ⊢; obtain ⟨a, vs, e, h1, h2⟩ := h; exact ⟨a, vs, e, s _ _ h1, Reps.same s h2⟩
  | .dct, v, h => by simp only [Rep] at h ⊢; obtain ⟨a, vs, e, h1⟩ := h; exact ⟨a, vs, e, s _ _ h1⟩
theorem Reps.same {H H' : Hp} (s : Same H H') : ∀ {ds : List D} {vs : List V}, Reps H ds vs → Reps H' ds vs
  | [], vs, h => by simp only [Reps] at h ⊢; exact h
  | d :: ds, vs, h => by simp only [Reps] at h ⊢; obtain ⟨v, r, e, h1, h2⟩ := h; exact ⟨v, r, e, Rep.same s h1, Reps.same s h2⟩
end
mutual
theorem pyEq_refl : ∀ d : D, pyEq d d = true
  | .non => by simp [pyEq]
  | .bl b => by simp [pyEq]
  | .int b => by simp [pyEq]
  | .str b => by simp [pyEq]
  | .lst ds => by simp only [pyEq]; exact pyEqs_refl ds
  | .tup ds => by simp only [pyEq]; exact pyEqs_refl ds
  | .dct => by simp only [pyEq]
theorem pyEqs_refl : ∀ ds : List D, pyEqs ds ds = true
  | [] => by simp [pyEqs]
  | d :: ds => by simp only [pyEqs]; rw [pyEq_refl d, pyEqs_refl ds]; rfl
end
mutual
theorem Rep.inj {H : Hp} : ∀ {d e : D} {v : V}, Rep H d v → Rep H e v → d = e
  | .non, e, v, h, h' => by simp only [Rep] at h; subst h; cases e <;> simp only [Rep] at h' <;> first | rfl | (cases h'; done) | (obtain ⟨_, _, z, _⟩ := h'; cases z)
  | .bl b, e, v, h, h' => by simp only [Rep] at h; subst h; cases e <;> simp only [Rep] at h' <;> first | (cases h'; rfl) | (cases h'; done) | (obtain ⟨_, _, z, _⟩ := h'; cases z)
  | .int b, e, v, h, h' => by simp only [Rep] at h; subst h; cases e <;> simp only [Rep] at h' <;> first | (cases h'; rfl) | (cases h'; done) | (obtain ⟨_, _, z, _⟩ := h'; cases z)
  | .str b, e, v, h, h' => by simp only [Rep] at h; subst h; cases e <;> simp only [Rep] at h' <;> first | (cases h'; rfl) | (cases h'; done) | (obtain ⟨_, _, z, _⟩ := h'; cases z)
  | .lst ds, e, v, h, h' => by
    simp only [Rep] at h
    obtain ⟨a, vs, rfl, h1, h2⟩ := h
    cases e <;> simp only [Rep] at h' <;> first | (cases h'; done) | skip
    · obtain ⟨a', vs', z, h1', h2'⟩ := h'
      cases z
      rw [h1] at h1'
      cases h1'
      rw [Reps.inj h2 h2']
    · obtain ⟨a', vs', z, h1', h2'⟩ := h'
      cases z
      rw [h1] at h1'
      cases h1'
    · obtain ⟨a', vs', z, h1'⟩ := h'
      cases z
      rw [h1] at h1'
      cases h1'
  | .tup ds, e, v, h, h' => by
    simp only [Rep] at h
    obtain ⟨a, vs, rfl, h1, h2⟩ := h
    cases e <;> simp only [Rep] at h' <;> first | (cases h'; done) | skip
    · obtain ⟨a', vs', z, h1', h2'⟩ := h'
      cases z
      rw [h1] at h1'
      cases h1'
    · obtain ⟨a', vs', z, h1', h2'⟩ := h'
      cases z
      rw [h1] at h1'
      cases h1'
      rw [Reps.inj h2 h2']
    · obtain ⟨a', vs', z, h1'⟩ := h'
      cases z
      rw [h1] at h1'
      cases h1'
  | .dct, e, v, h, h' => by
    simp only [Rep] at h
    obtain ⟨a, vs, rfl, h1⟩ := h
    cases e <;> simp only [Rep] at h' <;> first | rfl | (cases h'; done) | skip
    · obtain ⟨a', vs', z, h1', h2'⟩ := h'
      cases z
      rw [h1] at h1'
      cases h1'
    · obtain ⟨a', vs', z, h1', h2'⟩ := h'
      cases z
      rw [h1] at h1'
      cases h1'
theorem Reps.inj {H : Hp} : ∀ {ds es : List D} {vs : List V}, Reps H ds vs → Reps H es vs → ds = es
  | [], es, vs, h, h' => by
    simp only [Reps] at h
    subst h
    cases es with
    | nil => rfl
    | cons e es => simp only [Reps] at h'; obtain ⟨_, _, z, _⟩ := h'; cases z
  | d :: ds, es, vs, h, h' => by
    simp only [Reps] at h
    obtain ⟨v, r, rfl, h1, h2⟩ := h
    cases es with
    | nil => simp only [Reps] at h'; cases h'
    | cons e es =>
      simp only [Reps] at h'
      obtain ⟨_, _, z, h1', h2'⟩ := h'
      cases z
      rw [Rep.inj h1 h1', Reps.inj h2 h2']
end
end L2

set_option Elab.async false
set_option linter.all false
set_option maxRecDepth 100000
set_option maxHeartbeats 4000000
namespace L2
open PySem PySem.Spec PyProof.Rows PySem.SeqAt
theorem eqAt_of_rc {A : Around} {s : Shared} {v u : Value} {b : Bool} (hf : ∀ c t, v ≠ .float c t) (hs : v = u → b = true) (h : RcAt A s v u b) : EqAt A s v u b := fun prog w E Q hq => by
  unfold eqBool
  refine wpAny_holding ?_
  refine wpAny_ite_split (fun hab => ?_) (fun _ => ?_)
  · rw [hs (eq_of_beq hab)] at hq
    exact wpAny_bind (wpAny_rule (wpAny_pure hq))
  · cases v <;> first
      | exact absurd rfl (hf _ _)
      | exact wpAny_bind (h prog w E _ (wpAny_truthy_bool hq))
theorem Rep.noflt {H : Hp} {d : D} {x : V} {v : Value} (h : Rep H d x) (r : RelV x v) : ∀ c t, v ≠ .float c t := fun c t z => by
  subst z
  cases d <;> simp only [Rep] at h
  · subst h; cases (show Value.float c t = Value.none from r)
  · subst h; cases (show Value.float c t = Value.bool _ from r)
  · subst h; obtain ⟨_, z⟩ := r; cases z
  · subst h; obtain ⟨_, z⟩ := r; cases z
  · obtain ⟨a, _, rfl, _⟩ := h; cases (show Value.float c t = Value.ref a from r)
  · obtain ⟨a, _, rfl, _⟩ := h; cases (show Value.float c t = Value.ref a from r)
  · obtain ⟨a, _, rfl, _⟩ := h; cases (show Value.float c t = Value.ref a from r)
def eqIx (ds es : List D) (j : Nat) : Bool := pyEq (ds.getD j .non) (es.getD j .non)
theorem pyEqs_range : ∀ {ds es : List D}, ds.length = es.length → (List.range ds.length).all (eqIx ds es) = pyEqs ds es
  | [], [], _ => by simp [pyEqs]
  | [], _ :: _, h => by simp at h
  | _ :: _, [], h => by simp at h
  | d :: ds, e :: es, h => by
    rw [List.length_cons, List.range_succ_eq_map, List.all_cons, List.all_map]
    have ih := pyEqs_range (ds := ds) (es := es) (by simpa using h)
    simp only [pyEqs]
    rw [← ih]
    rfl
theorem pyEqs_len : ∀ {ds es : List D}, ds.length ≠ es.length → pyEqs ds es = false
  | [], [], h => by simp at h
  | [], _ :: _, _ => by simp [pyEqs]
  | _ :: _, [], _ => by simp [pyEqs]
  | d :: ds, e :: es, h => by
    simp only [pyEqs]
    rw [pyEqs_len (ds := ds) (es := es) (by simpa using h), Bool.and_false]
theorem Reps.get {H : Hp} : ∀ {ds : List D} {vs : List V} {j : Nat}, Reps H ds vs → j < ds.length → ∃ v, vs[j]? = some v ∧ Rep H (ds.getD j .non) v
  | [], _, _, _, h => by simp at h
  | d :: ds, vs, j, h, hj => by
    simp only [Reps] at h
    obtain ⟨v, r, rfl, h1, h2⟩ := h
    cases j with
    | zero => exact ⟨v, rfl, h1⟩
    | succ j =>
      obtain ⟨w, e, h3⟩ := Reps.get h2 (show j < ds.length by simpa using hj)
      exact ⟨w, by simpa using e, h3⟩
theorem D.dep_get : ∀ (ds : List D) (j : Nat), (ds.getD j .non).dep ≤ D.deps ds
  | [], j => by simp [D.dep, D.deps]
  | d :: ds, 0 => by simp only [D.deps, List.getD_cons_zero]; omega
  | d :: ds, j + 1 => by
    have := D.dep_get ds j
    simp only [D.deps, List.getD_cons_succ]
    omega
theorem len_min_all {n m : Nat} {e : Nat → Bool} {ds es : List D} (hn : n = ds.length) (hm : m = es.length) (he : e = eqIx ds es) : ((List.range (min n m)).all e && n == m) = pyEqs ds es := by
  subst hn hm he
  by_cases h : ds.length = es.length
  · rw [h, Nat.min_self, ← h, pyEqs_range h]
    simp
  · rw [pyEqs_len h, beq_eq_false_iff_ne.mpr h, Bool.and_false]
theorem rep_rc {P : Program} {w : World} : ∀ (n : Nat) {A : Around} {s : Shared} {H : Hp} {d e : D} {x y : V} {v u : Value}, HOk P w H s.heap → d.dep ≤ n → e.dep ≤ n → n < 1000 → Rep H d x → Rep H e y → RelV x v → RelV y u → A.units + n < cLine → RcAt A s v u (pyEq d e)
  | n, A, s, H, d, e, x, y, v, u, hok, hn, hn', hlt, hd, he, rx, ry, hu => by
    have hu0 : A.units < cLine := by omega
    have items : ∀ {ds es : List D} {vs us : List V} {its its2 : List Value}, D.deps ds + 1 ≤ n → D.deps es + 1 ≤ n → Reps H ds vs → Reps H es us → Vals vs its → Vals us its2 → ∀ j (h1 : j < its.toArray.size) (h2 : j < its2.toArray.size), EqAt A.in1 s its.toArray[j] its2.toArray[j] (eqIx ds es j) := by
      intro ds es vs us its its2 hdep hdep' r1 r2 v1 v2 j h1 h2
      have l1 := r1.length
      have l2 := r2.length
      have l3 := v1.length
      have l4 := v2.length
      rw [List.size_toArray] at h1 h2
      obtain ⟨a, ea, ra⟩ := r1.get (j := j) (by omega)
      obtain ⟨b, eb, rb⟩ := r2.get (j := j) (by omega)
      obtain ⟨va, eva, rva⟩ := v1.get ea
      obtain ⟨vb, evb, rvb⟩ := v2.get eb
      have ga : its.toArray[j]'(by simpa using h1) = va := by
        rw [List.getElem?_eq_getElem h1] at eva
        simpa using Option.some.inj eva
      have gb : its2.toArray[j]'(by simpa using h2) = vb := by
        rw [List.getElem?_eq_getElem h2] at evb
        simpa using Option.some.inj evb
      rw [ga, gb]
      have hdj := D.dep_get ds j
      have hdj' := D.dep_get es j
      refine eqAt_of_rc (ra.noflt rva) (fun z => ?_) (rep_rc (n - 1) hok (by omega) (by omega) (by omega) ra rb rva rvb (by rw [Around.in1_units]; omega))
      subst z
      have := rva.inj rvb
      subst this
      have := ra.inj rb
      unfold eqIx
      rw [this]
      exact pyEq_refl _
    cases d with
    | dct => simp only [D.dep] at hn; omega
    | non =>
      simp only [Rep] at hd; subst hd
      cases (show v = Value.none from rx)
      cases e with
      | dct => simp only [D.dep] at hn'; omega
      | non => simp only [Rep] at he; subst he; cases (show u = Value.none from ry); simp only [pyEq]; exact RcAt.none_none
      | bl b => simp only [Rep] at he; subst he; cases (show u = Value.bool b from ry); simp only [pyEq]; exact RcAt.none_bool _
      | int b => simp only [Rep] at he; subst he; obtain ⟨t, rfl⟩ := ry; simp only [pyEq]; exact RcAt.none_int _ _
      | str b => simp only [Rep] at he; subst he; obtain ⟨t, rfl⟩ := ry; simp only [pyEq]; exact RcAt.none_str _ _
      | lst ds => simp only [Rep] at he; obtain ⟨a, vs, rfl, h1, h2⟩ := he; cases (show u = Value.ref a from ry); obtain ⟨_, its, k, _, h3⟩ := (show ObjOk P w H s.heap a (.lst vs) from hok a _ h1); simp only [pyEq]; exact RcAt.none_list (items := its.toArray) ⟨_, h3, rfl, k, rfl⟩ hu0
      | tup ds => simp only [Rep] at he; obtain ⟨a, vs, rfl, h1, h2⟩ := he; cases (show u = Value.ref a from ry); obtain ⟨_, its, _, h3⟩ := (show ObjOk P w H s.heap a (.tup vs) from hok a _ h1); simp only [pyEq]; exact RcAt.none_tuple h3 hu0
    | bl c =>
      simp only [Rep] at hd; subst hd
      cases (show v = Value.bool c from rx)
      cases e with
      | dct => simp only [D.dep] at hn'; omega
      | non => simp only [Rep] at he; subst he; cases (show u = Value.none from ry); simp only [pyEq]; exact RcAt.bool_none _
      | bl b => simp only [Rep] at he; subst he; cases (show u = Value.bool b from ry); simp only [pyEq]; exact RcAt.bool_bool _ _
      | int b => simp only [Rep] at he; subst he; obtain ⟨t, rfl⟩ := ry; simp only [pyEq]; exact RcAt.bool_int _ _ _
      | str b => simp only [Rep] at he; subst he; obtain ⟨t, rfl⟩ := ry; simp only [pyEq]; exact RcAt.bool_str _ _ _
      | lst ds => simp only [Rep] at he; obtain ⟨a, vs, rfl, h1, h2⟩ := he; cases (show u = Value.ref a from ry); obtain ⟨_, its, k, _, h3⟩ := (show ObjOk P w H s.heap a (.lst vs) from hok a _ h1); simp only [pyEq]; exact RcAt.bool_list (items := its.toArray) _ ⟨_, h3, rfl, k, rfl⟩ hu0
      | tup ds => simp only [Rep] at he; obtain ⟨a, vs, rfl, h1, h2⟩ := he; cases (show u = Value.ref a from ry); obtain ⟨_, its, _, h3⟩ := (show ObjOk P w H s.heap a (.tup vs) from hok a _ h1); simp only [pyEq]; exact RcAt.bool_tuple _ h3 hu0
    | int c =>
      simp only [Rep] at hd; subst hd
      obtain ⟨t', rfl⟩ := rx
      cases e with
      | dct => simp only [D.dep] at hn'; omega
      | non => simp only [Rep] at he; subst he; cases (show u = Value.none from ry); simp only [pyEq]; exact RcAt.int_none _ _
      | bl b => simp only [Rep] at he; subst he; cases (show u = Value.bool b from ry); simp only [pyEq]; exact RcAt.int_bool _ _ _
      | int b => simp only [Rep] at he; subst he; obtain ⟨t, rfl⟩ := ry; simp only [pyEq]; exact RcAt.int_int _ _ _ _
      | str b => simp only [Rep] at he; subst he; obtain ⟨t, rfl⟩ := ry; simp only [pyEq]; exact RcAt.int_str _ _ _ _
      | lst ds => simp only [Rep] at he; obtain ⟨a, vs, rfl, h1, h2⟩ := he; cases (show u = Value.ref a from ry); obtain ⟨_, its, k, _, h3⟩ := (show ObjOk P w H s.heap a (.lst vs) from hok a _ h1); simp only [pyEq]; exact RcAt.int_list (items := its.toArray) _ _ ⟨_, h3, rfl, k, rfl⟩ hu0
      | tup ds => simp only [Rep] at he; obtain ⟨a, vs, rfl, h1, h2⟩ := he; cases (show u = Value.ref a from ry); obtain ⟨_, its, _, h3⟩ := (show ObjOk P w H s.heap a (.tup vs) from hok a _ h1); simp only [pyEq]; exact RcAt.int_tuple _ _ h3 hu0
    | str c =>
      simp only [Rep] at hd; subst hd
      obtain ⟨t', rfl⟩ := rx
      cases e with
      | dct => simp only [D.dep] at hn'; omega
      | non => simp only [Rep] at he; subst he; cases (show u = Value.none from ry); simp only [pyEq]; exact RcAt.str_none _ _
      | bl b => simp only [Rep] at he; subst he; cases (show u = Value.bool b from ry); simp only [pyEq]; exact RcAt.str_bool _ _ _
      | int b => simp only [Rep] at he; subst he; obtain ⟨t, rfl⟩ := ry; simp only [pyEq]; exact RcAt.str_int _ _ _ _
      | str b => simp only [Rep] at he; subst he; obtain ⟨t, rfl⟩ := ry; simp only [pyEq]; exact RcAt.str_str _ _ _ _
      | lst ds => simp only [Rep] at he; obtain ⟨a, vs, rfl, h1, h2⟩ := he; cases (show u = Value.ref a from ry); obtain ⟨_, its, k, _, h3⟩ := (show ObjOk P w H s.heap a (.lst vs) from hok a _ h1); simp only [pyEq]; exact RcAt.str_list (items := its.toArray) _ _ ⟨_, h3, rfl, k, rfl⟩ hu0
      | tup ds => simp only [Rep] at he; obtain ⟨a, vs, rfl, h1, h2⟩ := he; cases (show u = Value.ref a from ry); obtain ⟨_, its, _, h3⟩ := (show ObjOk P w H s.heap a (.tup vs) from hok a _ h1); simp only [pyEq]; exact RcAt.str_tuple _ _ h3 hu0
    | lst cs =>
      simp only [Rep] at hd
      obtain ⟨b, ws, rfl, g1, g2⟩ := hd
      cases (show v = Value.ref b from rx)
      obtain ⟨_, jts, m, g4, g3⟩ := (show ObjOk P w H s.heap b (.lst ws) from hok b _ g1)
      have gl : s.heap.IsList b jts.toArray := ⟨_, g3, rfl, m, rfl⟩
      cases e with
      | dct => simp only [D.dep] at hn'; omega
      | non => simp only [Rep] at he; subst he; cases (show u = Value.none from ry); simp only [pyEq]; exact RcAt.list_none gl hu0
      | bl b => simp only [Rep] at he; subst he; cases (show u = Value.bool b from ry); simp only [pyEq]; exact RcAt.list_bool _ gl hu0
      | int b => simp only [Rep] at he; subst he; obtain ⟨t, rfl⟩ := ry; simp only [pyEq]; exact RcAt.list_int _ _ gl hu0
      | str b => simp only [Rep] at he; subst he; obtain ⟨t, rfl⟩ := ry; simp only [pyEq]; exact RcAt.list_str _ _ gl hu0
      | lst ds =>
        simp only [Rep] at he
        obtain ⟨a, vs, rfl, h1, h2⟩ := he
        cases (show u = Value.ref a from ry)
        obtain ⟨_, its, k, h4, h3⟩ := (show ObjOk P w H s.heap a (.lst vs) from hok a _ h1)
        simp only [pyEq]
        have l1 := g2.length
        have l2 := h2.length
        have l3 := g4.length
        have l4 := h4.length
        by_cases hl : cs.length = ds.length
        · rw [← pyEqs_range hl]
          have e1 : cs.length = jts.toArray.size := by rw [List.size_toArray]; omega
          rw [e1]
          exact RcAt.lists gl ⟨_, h3, rfl, k, rfl⟩ (by rw [List.size_toArray, List.size_toArray]; omega) hu0 (items (by simp only [D.dep] at hn; omega) (by simp only [D.dep] at hn'; omega) g2 h2 g4 h4)
        · rw [pyEqs_len hl]
          exact RcAt.lists_lengths (items2 := its.toArray) gl ⟨_, h3, rfl, k, rfl⟩ (by rw [List.size_toArray, List.size_toArray]; exact bne_iff_ne.mpr (by omega)) hu0
      | tup ds => simp only [Rep] at he; obtain ⟨a, vs, rfl, h1, h2⟩ := he; cases (show u = Value.ref a from ry); obtain ⟨_, its, _, h3⟩ := (show ObjOk P w H s.heap a (.tup vs) from hok a _ h1); simp only [pyEq]; exact RcAt.list_tuple gl h3 hu0
    | tup cs =>
      simp only [Rep] at hd
      obtain ⟨b, ws, rfl, g1, g2⟩ := hd
      cases (show v = Value.ref b from rx)
      obtain ⟨_, jts, g4, gl⟩ := (show ObjOk P w H s.heap b (.tup ws) from hok b _ g1)
      cases e with
      | dct => simp only [D.dep] at hn'; omega
      | non => simp only [Rep] at he; subst he; cases (show u = Value.none from ry); simp only [pyEq]; exact RcAt.tuple_none gl hu0
      | bl b => simp only [Rep] at he; subst he; cases (show u = Value.bool b from ry); simp only [pyEq]; exact RcAt.tuple_bool _ gl hu0
      | int b => simp only [Rep] at he; subst he; obtain ⟨t, rfl⟩ := ry; simp only [pyEq]; exact RcAt.tuple_int _ _ gl hu0
      | str b => simp only [Rep] at he; subst he; obtain ⟨t, rfl⟩ := ry; simp only [pyEq]; exact RcAt.tuple_str _ _ gl hu0
      | lst ds => simp only [Rep] at he; obtain ⟨a, vs, rfl, h1, h2⟩ := he; cases (show u = Value.ref a from ry); obtain ⟨_, its, k, _, h3⟩ := (show ObjOk P w H s.heap a (.lst vs) from hok a _ h1); simp only [pyEq]; exact RcAt.tuple_list (items2 := its.toArray) gl ⟨_, h3, rfl, k, rfl⟩ hu0
      | tup ds =>
        simp only [Rep] at he
        obtain ⟨a, vs, rfl, h1, h2⟩ := he
        cases (show u = Value.ref a from ry)
        obtain ⟨_, its, h4, h3⟩ := (show ObjOk P w H s.heap a (.tup vs) from hok a _ h1)
        simp only [pyEq]
        have l1 := g2.length
        have l2 := h2.length
        have l3 := g4.length
        have l4 := h4.length
        rw [← len_min_all (n := jts.toArray.size) (m := its.toArray.size) (by rw [List.size_toArray]; omega) (by rw [List.size_toArray]; omega) rfl]
        exact RcAt.tuples gl h3 hu0 (items (by simp only [D.dep] at hn; omega) (by simp only [D.dep] at hn'; omega) g2 h2 g4 h4)
termination_by n => n
decreasing_by all_goals simp_wf; omega
theorem rep_rcne {P : Program} {w : World} : ∀ (n : Nat) {A : Around} {s : Shared} {H : Hp} {d e : D} {x y : V} {v u : Value}, HOk P w H s.heap → d.dep ≤ n → e.dep ≤ n → n < 1000 → Rep H d x → Rep H e y → RelV x v → RelV y u → A.units + n < cLine → RcNeAt A s v u (!pyEq d e)
  | n, A, s, H, d, e, x, y, v, u, hok, hn, hn', hlt, hd, he, rx, ry, hu => by
    have hu0 : A.units < cLine := by omega
    have items : ∀ {ds es : List D} {vs us : List V} {its its2 : List Value}, D.deps ds + 1 ≤ n → D.deps es + 1 ≤ n → Reps H ds vs → Reps H es us → Vals vs its → Vals us its2 → ∀ j (h1 : j < its.toArray.size) (h2 : j < its2.toArray.size), EqAt A.in1 s its.toArray[j] its2.toArray[j] (eqIx ds es j) := by
      intro ds es vs us its its2 hdep hdep' r1 r2 v1 v2 j h1 h2
      have l1 := r1.length
      have l2 := r2.length
      have l3 := v1.length
      have l4 := v2.length
      rw [List.size_toArray] at h1 h2
      obtain ⟨a, ea, ra⟩ := r1.get (j := j) (by omega)
      obtain ⟨b, eb, rb⟩ := r2.get (j := j) (by omega)
      obtain ⟨va, eva, rva⟩ := v1.get ea
      obtain ⟨vb, evb, rvb⟩ := v2.get eb
      have ga : its.toArray[j]'(by simpa using h1) = va := by
        rw [List.getElem?_eq_getElem h1] at eva
        simpa using Option.some.inj eva
      have gb : its2.toArray[j]'(by simpa using h2) = vb := by
        rw [List.getElem?_eq_getElem h2] at evb
        simpa using Option.some.inj evb
      rw [ga, gb]
      have hdj := D.dep_get ds j
      have hdj' := D.dep_get es j
      refine eqAt_of_rc (ra.noflt rva) (fun z => ?_) (rep_rc (n - 1) hok (by omega) (by omega) (by omega) ra rb rva rvb (by rw [Around.in1_units]; omega))
      subst z
      have := rva.inj rvb
      subst this
      have := ra.inj rb
      unfold eqIx
      rw [this]
      exact pyEq_refl _
    cases d with
    | dct => simp only [D.dep] at hn; omega
    | non =>
      simp only [Rep] at hd; subst hd
      cases (show v = Value.none from rx)
      cases e with
      | dct => simp only [D.dep] at hn'; omega
      | non => simp only [Rep] at he; subst he; cases (show u = Value.none from ry); simp only [pyEq]; exact RcNeAt.none_none
      | bl b => simp only [Rep] at he; subst he; cases (show u = Value.bool b from ry); simp only [pyEq]; exact RcNeAt.none_bool _
      | int b => simp only [Rep] at he; subst he; obtain ⟨t, rfl⟩ := ry; simp only [pyEq]; exact RcNeAt.none_int _ _
      | str b => simp only [Rep] at he; subst he; obtain ⟨t, rfl⟩ := ry; simp only [pyEq]; exact RcNeAt.none_str _ _
      | lst ds => simp only [Rep] at he; obtain ⟨a, vs, rfl, h1, h2⟩ := he; cases (show u = Value.ref a from ry); obtain ⟨_, its, k, _, h3⟩ := (show ObjOk P w H s.heap a (.lst vs) from hok a _ h1); simp only [pyEq]; exact RcNeAt.none_list (items := its.toArray) ⟨_, h3, rfl, k, rfl⟩ hu0
      | tup ds => simp only [Rep] at he; obtain ⟨a, vs, rfl, h1, h2⟩ := he; cases (show u = Value.ref a from ry); obtain ⟨_, its, _, h3⟩ := (show ObjOk P w H s.heap a (.tup vs) from hok a _ h1); simp only [pyEq]; exact RcNeAt.none_tuple h3 hu0
    | bl c =>
      simp only [Rep] at hd; subst hd
      cases (show v = Value.bool c from rx)
      cases e with
      | dct => simp only [D.dep] at hn'; omega
      | non => simp only [Rep] at he; subst he; cases (show u = Value.none from ry); simp only [pyEq]; exact RcNeAt.bool_none _
      | bl b => simp only [Rep] at he; subst he; cases (show u = Value.bool b from ry); simp only [pyEq]; exact RcNeAt.bool_bool _ _
      | int b => simp only [Rep] at he; subst he; obtain ⟨t, rfl⟩ := ry; simp only [pyEq]; exact RcNeAt.bool_int _ _ _
      | str b => simp only [Rep] at he; subst he; obtain ⟨t, rfl⟩ := ry; simp only [pyEq]; exact RcNeAt.bool_str _ _ _
      | lst ds => simp only [Rep] at he; obtain ⟨a, vs, rfl, h1, h2⟩ := he; cases (show u = Value.ref a from ry); obtain ⟨_, its, k, _, h3⟩ := (show ObjOk P w H s.heap a (.lst vs) from hok a _ h1); simp only [pyEq]; exact RcNeAt.bool_list (items := its.toArray) _ ⟨_, h3, rfl, k, rfl⟩ hu0
      | tup ds => simp only [Rep] at he; obtain ⟨a, vs, rfl, h1, h2⟩ := he; cases (show u = Value.ref a from ry); obtain ⟨_, its, _, h3⟩ := (show ObjOk P w H s.heap a (.tup vs) from hok a _ h1); simp only [pyEq]; exact RcNeAt.bool_tuple _ h3 hu0
    | int c =>
      simp only [Rep] at hd; subst hd
      obtain ⟨t', rfl⟩ := rx
      cases e with
      | dct => simp only [D.dep] at hn'; omega
      | non => simp only [Rep] at he; subst he; cases (show u = Value.none from ry); simp only [pyEq]; exact RcNeAt.int_none _ _
      | bl b => simp only [Rep] at he; subst he; cases (show u = Value.bool b from ry); simp only [pyEq]; exact RcNeAt.int_bool _ _ _
      | int b => simp only [Rep] at he; subst he; obtain ⟨t, rfl⟩ := ry; simp only [pyEq]; exact RcNeAt.int_int _ _ _ _
      | str b => simp only [Rep] at he; subst he; obtain ⟨t, rfl⟩ := ry; simp only [pyEq]; exact RcNeAt.int_str _ _ _ _
      | lst ds => simp only [Rep] at he; obtain ⟨a, vs, rfl, h1, h2⟩ := he; cases (show u = Value.ref a from ry); obtain ⟨_, its, k, _, h3⟩ := (show ObjOk P w H s.heap a (.lst vs) from hok a _ h1); simp only [pyEq]; exact RcNeAt.int_list (items := its.toArray) _ _ ⟨_, h3, rfl, k, rfl⟩ hu0
      | tup ds => simp only [Rep] at he; obtain ⟨a, vs, rfl, h1, h2⟩ := he; cases (show u = Value.ref a from ry); obtain ⟨_, its, _, h3⟩ := (show ObjOk P w H s.heap a (.tup vs) from hok a _ h1); simp only [pyEq]; exact RcNeAt.int_tuple _ _ h3 hu0
    | str c =>
      simp only [Rep] at hd; subst hd
      obtain ⟨t', rfl⟩ := rx
      cases e with
      | dct => simp only [D.dep] at hn'; omega
      | non => simp only [Rep] at he; subst he; cases (show u = Value.none from ry); simp only [pyEq]; exact RcNeAt.str_none _ _
      | bl b => simp only [Rep] at he; subst he; cases (show u = Value.bool b from ry); simp only [pyEq]; exact RcNeAt.str_bool _ _ _
      | int b => simp only [Rep] at he; subst he; obtain ⟨t, rfl⟩ := ry; simp only [pyEq]; exact RcNeAt.str_int _ _ _ _
      | str b => simp only [Rep] at he; subst he; obtain ⟨t, rfl⟩ := ry; simp only [pyEq]; exact RcNeAt.str_str _ _ _ _
      | lst ds => simp only [Rep] at he; obtain ⟨a, vs, rfl, h1, h2⟩ := he; cases (show u = Value.ref a from ry); obtain ⟨_, its, k, _, h3⟩ := (show ObjOk P w H s.heap a (.lst vs) from hok a _ h1); simp only [pyEq]; exact RcNeAt.str_list (items := its.toArray) _ _ ⟨_, h3, rfl, k, rfl⟩ hu0
      | tup ds => simp only [Rep] at he; obtain ⟨a, vs, rfl, h1, h2⟩ := he; cases (show u = Value.ref a from ry); obtain ⟨_, its, _, h3⟩ := (show ObjOk P w H s.heap a (.tup vs) from hok a _ h1); simp only [pyEq]; exact RcNeAt.str_tuple _ _ h3 hu0
    | lst cs =>
      simp only [Rep] at hd
      obtain ⟨b, ws, rfl, g1, g2⟩ := hd
      cases (show v = Value.ref b from rx)
      obtain ⟨_, jts, m, g4, g3⟩ := (show ObjOk P w H s.heap b (.lst ws) from hok b _ g1)
      have gl : s.heap.IsList b jts.toArray := ⟨_, g3, rfl, m, rfl⟩
      cases e with
      | dct => simp only [D.dep] at hn'; omega
      | non => simp only [Rep] at he; subst he; cases (show u = Value.none from ry); simp only [pyEq]; exact RcNeAt.list_none gl hu0
      | bl b => simp only [Rep] at he; subst he; cases (show u = Value.bool b from ry); simp only [pyEq]; exact RcNeAt.list_bool _ gl hu0
      | int b => simp only [Rep] at he; subst he; obtain ⟨t, rfl⟩ := ry; simp only [pyEq]; exact RcNeAt.list_int _ _ gl hu0
      | str b => simp only [Rep] at he; subst he; obtain ⟨t, rfl⟩ := ry; simp only [pyEq]; exact RcNeAt.list_str _ _ gl hu0
      | lst ds =>
        simp only [Rep] at he
        obtain ⟨a, vs, rfl, h1, h2⟩ := he
        cases (show u = Value.ref a from ry)
        obtain ⟨_, its, k, h4, h3⟩ := (show ObjOk P w H s.heap a (.lst vs) from hok a _ h1)
        simp only [pyEq]
        have l1 := g2.length
        have l2 := h2.length
        have l3 := g4.length
        have l4 := h4.length
        by_cases hl : cs.length = ds.length
        · rw [← pyEqs_range hl]
          have e1 : cs.length = jts.toArray.size := by rw [List.size_toArray]; omega
          rw [e1]
          exact RcNeAt.lists gl ⟨_, h3, rfl, k, rfl⟩ (by rw [List.size_toArray, List.size_toArray]; omega) hu0 (items (by simp only [D.dep] at hn; omega) (by simp only [D.dep] at hn'; omega) g2 h2 g4 h4)
        · rw [pyEqs_len hl]
          exact RcNeAt.lists_lengths (items2 := its.toArray) gl ⟨_, h3, rfl, k, rfl⟩ (by rw [List.size_toArray, List.size_toArray]; exact bne_iff_ne.mpr (by omega)) hu0
      | tup ds => simp only [Rep] at he; obtain ⟨a, vs, rfl, h1, h2⟩ := he; cases (show u = Value.ref a from ry); obtain ⟨_, its, _, h3⟩ := (show ObjOk P w H s.heap a (.tup vs) from hok a _ h1); simp only [pyEq]; exact RcNeAt.list_tuple gl h3 hu0
    | tup cs =>
      simp only [Rep] at hd
      obtain ⟨b, ws, rfl, g1, g2⟩ := hd
      cases (show v = Value.ref b from rx)
      obtain ⟨_, jts, g4, gl⟩ := (show ObjOk P w H s.heap b (.tup ws) from hok b _ g1)
      cases e with
      | dct => simp only [D.dep] at hn'; omega
      | non => simp only [Rep] at he; subst he; cases (show u = Value.none from ry); simp only [pyEq]; exact RcNeAt.tuple_none gl hu0
      | bl b => simp only [Rep] at he; subst he; cases (show u = Value.bool b from ry); simp only [pyEq]; exact RcNeAt.tuple_bool _ gl hu0
      | int b => simp only [Rep] at he; subst he; obtain ⟨t, rfl⟩ := ry; simp only [pyEq]; exact RcNeAt.tuple_int _ _ gl hu0
      | str b => simp only [Rep] at he; subst he; obtain ⟨t, rfl⟩ := ry; simp only [pyEq]; exact RcNeAt.tuple_str _ _ gl hu0
      | lst ds => simp only [Rep] at he; obtain ⟨a, vs, rfl, h1, h2⟩ := he; cases (show u = Value.ref a from ry); obtain ⟨_, its, k, _, h3⟩ := (show ObjOk P w H s.heap a (.lst vs) from hok a _ h1); simp only [pyEq]; exact RcNeAt.tuple_list (items2 := its.toArray) gl ⟨_, h3, rfl, k, rfl⟩ hu0
      | tup ds =>
        simp only [Rep] at he
        obtain ⟨a, vs, rfl, h1, h2⟩ := he
        cases (show u = Value.ref a from ry)
        obtain ⟨_, its, h4, h3⟩ := (show ObjOk P w H s.heap a (.tup vs) from hok a _ h1)
        simp only [pyEq]
        have l1 := g2.length
        have l2 := h2.length
        have l3 := g4.length
        have l4 := h4.length
        rw [← len_min_all (n := jts.toArray.size) (m := its.toArray.size) (by rw [List.size_toArray]; omega) (by rw [List.size_toArray]; omega) rfl]
        exact RcNeAt.tuples gl h3 hu0 (items (by simp only [D.dep] at hn; omega) (by simp only [D.dep] at hn'; omega) g2 h2 g4 h4)
section
variable {X : Cx}
/-- == and != of plain data -/
def rEqD : R2 := fun x y H Q => ∃ d e, Rep H d x ∧ Rep H e y ∧ d.dep ≤ 100 ∧ e.dep ≤ 100 ∧ Q (.bl (pyEq d e)) H
def rNeD : R2 := fun x y H Q => ∃ d e, Rep H d x ∧ Rep H e y ∧ d.dep ≤ 100 ∧ e.dep ≤ 100 ∧ Q (.bl (!pyEq d e)) H
theorem o_eqD (hu : X.A.units + 100 < cLine) : OpR X (compareOp .Eq) rEqD := by
  intro pins s σ H x y v u Q I rx ry h
  obtain ⟨d, e, hd, he, hn, hn', q⟩ := h
  show wpAny _ _ (richCompare .Eq _ _) _ _ s
  exact rep_rc 100 I.hok hn hn' (by decide) hd he rx ry hu _ _ _ _ ⟨.bl (pyEq d e), H, I, rfl, q⟩
theorem o_neD (hu : X.A.units + 100 < cLine) : OpR X (compareOp .NotEq) rNeD := by
  intro pins s σ H x y v u Q I rx ry h
  obtain ⟨d, e, hd, he, hn, hn', q⟩ := h
  show wpAny _ _ (richCompare .NotEq _ _) _ _ s
  exact rep_rcne 100 I.hok hn hn' (by decide) hd he rx ry hu _ _ _ _ ⟨.bl (!pyEq d e), H, I, rfl, q⟩
end
end L2

set_option Elab.async false
set_option linter.all false
set_option maxRecDepth 100000
set_option maxHeartbeats 4000000
namespace L2
open PySem PySem.Spec PyProof.Rows
/-! ### what kind a thing is -/
theorem kit_non_str (K : PySem.W.Frag) : PySem.W.kitOne K (.type "NoneType") (.type "str") = some false := by kernel_rfl
theorem kit_non_int (K : PySem.W.Frag) : PySem.W.kitOne K (.type "NoneType") (.type "int") = some false := by kernel_rfl
theorem kit_non_bool (K : PySem.W.Frag) : PySem.W.kitOne K (.type "NoneType") (.type "bool") = some false := by kernel_rfl
theorem kit_non_tuple (K : PySem.W.Frag) : PySem.W.kitOne K (.type "NoneType") (.type "tuple") = some false := by kernel_rfl
theorem kit_non_list (K : PySem.W.Frag) : PySem.W.kitOne K (.type "NoneType") (.type "list") = some false := by kernel_rfl
theorem kit_non_dict (K : PySem.W.Frag) : PySem.W.kitOne K (.type "NoneType") (.type "dict") = some false := by kernel_rfl
theorem kit_bl_str (K : PySem.W.Frag) : PySem.W.kitOne K (.type "bool") (.type "str") = some false := by kernel_rfl
theorem kit_bl_int (K : PySem.W.Frag) : PySem.W.kitOne K (.type "bool") (.type "int") = some true := by kernel_rfl
theorem kit_bl_bool (K : PySem.W.Frag) : PySem.W.kitOne K (.type "bool") (.type "bool") = some true := by kernel_rfl
theorem kit_bl_tuple (K : PySem.W.Frag) : PySem.W.kitOne K (.type "bool") (.type "tuple") = some false := by kernel_rfl
theorem kit_bl_list (K : PySem.W.Frag) : PySem.W.kitOne K (.type "bool") (.type "list") = some false := by kernel_rfl
theorem kit_bl_dict (K : PySem.W.Frag) : PySem.W.kitOne K (.type "bool") (.type "dict") = some false := by kernel_rfl
theorem kit_int_str (K : PySem.W.Frag) : PySem.W.kitOne K (.type "int") (.type "str") = some false := by kernel_rfl
theorem kit_int_int (K : PySem.W.Frag) : PySem.W.kitOne K (.type "int") (.type "int") = some true := by kernel_rfl
theorem kit_int_bool (K : PySem.W.Frag) : PySem.W.kitOne K (.type "int") (.type "bool") = some false := by kernel_rfl
theorem kit_int_tuple (K : PySem.W.Frag) : PySem.W.kitOne K (.type "int") (.type "tuple") = some false := by kernel_rfl
theorem kit_int_list (K : PySem.W.Frag) : PySem.W.kitOne K (.type "int") (.type "list") = some false := by kernel_rfl
theorem kit_int_dict (K : PySem.W.Frag) : PySem.W.kitOne K (.type "int") (.type "dict") = some false := by kernel_rfl
theorem kit_str_str (K : PySem.W.Frag) : PySem.W.kitOne K (.type "str") (.type "str") = some true := by kernel_rfl
theorem kit_str_int (K : PySem.W.Frag) : PySem.W.kitOne K (.type "str") (.type "int") = some false := by kernel_rfl
theorem kit_str_bool (K : PySem.W.Frag) : PySem.W.kitOne K (.type "str") (.type "bool") = some false := by kernel_rfl
theorem kit_str_tuple (K : PySem.W.Frag) : PySem.W.kitOne K (.type "str") (.type "tuple") = some false := by kernel_rfl
theorem kit_str_list (K : PySem.W.Frag) : PySem.W.kitOne K (.type "str") (.type "list") = some false := by kernel_rfl
theorem kit_str_dict (K : PySem.W.Frag) : PySem.W.kitOne K (.type "str") (.type "dict") = some false := by kernel_rfl
theorem kit_lst_str (K : PySem.W.Frag) : PySem.W.kitOne K (.type "list") (.type "str") = some false := by kernel_rfl
theorem kit_lst_int (K : PySem.W.Frag) : PySem.W.kitOne K (.type "list") (.type "int") = some false := by kernel_rfl
theorem kit_lst_bool (K : PySem.W.Frag) : PySem.W.kitOne K (.type "list") (.type "bool") = some false := by kernel_rfl
theorem kit_lst_tuple (K : PySem.W.Frag) : PySem.W.kitOne K (.type "list") (.type "tuple") = some false := by kernel_rfl
theorem kit_lst_list (K : PySem.W.Frag) : PySem.W.kitOne K (.type "list") (.type "list") = some true := by kernel_rfl
theorem kit_lst_dict (K : PySem.W.Frag) : PySem.W.kitOne K (.type "list") (.type "dict") = some false := by kernel_rfl
theorem kit_tup_str (K : PySem.W.Frag) : PySem.W.kitOne K (.type "tuple") (.type "str") = some false := by kernel_rfl
theorem kit_tup_int (K : PySem.W.Frag) : PySem.W.kitOne K (.type "tuple") (.type "int") = some false := by kernel_rfl
theorem kit_tup_bool (K : PySem.W.Frag) : PySem.W.kitOne K (.type "tuple") (.type "bool") = some false := by kernel_rfl
theorem kit_tup_tuple (K : PySem.W.Frag) : PySem.W.kitOne K (.type "tuple") (.type "tuple") = some true := by kernel_rfl
theorem kit_tup_list (K : PySem.W.Frag) : PySem.W.kitOne K (.type "tuple") (.type "list") = some false := by kernel_rfl
theorem kit_tup_dict (K : PySem.W.Frag) : PySem.W.kitOne K (.type "tuple") (.type "dict") = some false := by kernel_rfl
theorem kit_dK_str (K : PySem.W.Frag) : PySem.W.kitOne K (.type "dict") (.type "str") = some false := by kernel_rfl
theorem kit_dK_int (K : PySem.W.Frag) : PySem.W.kitOne K (.type "dict") (.type "int") = some false := by kernel_rfl
theorem kit_dK_bool (K : PySem.W.Frag) : PySem.W.kitOne K (.type "dict") (.type "bool") = some false := by kernel_rfl
theorem kit_dK_tuple (K : PySem.W.Frag) : PySem.W.kitOne K (.type "dict") (.type "tuple") = some false := by kernel_rfl
theorem kit_dK_list (K : PySem.W.Frag) : PySem.W.kitOne K (.type "dict") (.type "list") = some false := by kernel_rfl
theorem kit_dK_dict (K : PySem.W.Frag) : PySem.W.kitOne K (.type "dict") (.type "dict") = some true := by kernel_rfl

section
variable {X : Cx} {K : PySem.W.Frag} {σ : St} {H : Hp} {D : Ends} {Q : VK} {E : XK}
def rIs (K : PySem.W.Frag) : List V → Hp → VK → Prop := fun xs H Q => ∃ x T t b, xs = [x, .ty T] ∧ TyOf K H x t ∧ PySem.W.kitOne K t (.type T) = some b ∧ Q (.bl b) H
theorem c_isinst : CallR X (.builtin "isinstance") (rIs X.K) := call_isinst
theorem rd_is {x : V} {T : String} {t : Value} {b : Bool} (ty : TyOf K H x t) (hk : PySem.W.kitOne K t (.type T) = some b) (h : Q (.bl b) H) : rIs K [x, .ty T] H Q := ⟨x, T, t, b, rfl, ty, hk, h⟩
def rLen (K : PySem.W.Frag) : List V → Hp → VK → Prop := fun xs H Q => ∃ x n, xs = [x] ∧ LenV K x H n ∧ Q (.int n) H
theorem c_len : CallR X (.builtin "len") (rLen X.K) := call_len
theorem rd_lenS {z : Str} (hz : z.length ≤ sizeLine) (h : Q (.int z.length) H) : rLen K [.str z] H Q := ⟨_, _, rfl, ⟨hz, rfl⟩, h⟩
theorem rd_lenL {a : Addr} {xs : List V} (e : SqL K H a xs) (h : Q (.int xs.length) H) : rLen K [.ref a] H Q := ⟨_, _, rfl, .inl ⟨xs, e, rfl⟩, h⟩
theorem rd_lenT {a : Addr} {xs : List V} (e : SqT K H a xs) (h : Q (.int xs.length) H) : rLen K [.ref a] H Q := ⟨_, _, rfl, .inr ⟨xs, e, rfl⟩, h⟩
def rMax : List V → Hp → VK → Prop := fun xs H Q => ∃ i j, xs = [.int i, .int j] ∧ Q (.int (max i j)) H
def rMin : List V → Hp → VK → Prop := fun xs H Q => ∃ i j, xs = [.int i, .int j] ∧ Q (.int (min i j)) H
theorem c_max (hc : X.calm = true) : CallR X (.builtin "max") rMax := fun pins s σ H xs us Q I r h => call_max2 hc pins s σ H xs us Q I r (by
  obtain ⟨i, j, e, h⟩ := h
  refine ⟨i, j, e, ?_⟩
  rw [show (if j > i then j else i) = max i j by split <;> omega]
  exact h)
theorem c_min (hc : X.calm = true) : CallR X (.builtin "min") rMin := fun pins s σ H xs us Q I r h => call_min2 hc pins s σ H xs us Q I r (by
  obtain ⟨i, j, e, h⟩ := h
  refine ⟨i, j, e, ?_⟩
  rw [show (if j < i then j else i) = min i j by split <;> omega]
  exact h)
theorem rd_max {i j : Int} (h : Q (.int (max i j)) H) : rMax [.int i, .int j] H Q := ⟨i, j, rfl, h⟩
theorem rd_min {i j : Int} (h : Q (.int (min i j)) H) : rMin [.int i, .int j] H Q := ⟨i, j, rfl, h⟩
def rStrI : List V → Hp → VK → Prop := fun xs H Q => ∃ i, xs = [.int i] ∧ i.natAbs.log2 < 1920 ∧ Q (.str (toString i)) H
theorem c_str : CallR X (.type "str") rStrI := call_str_int
theorem rd_str {i : Int} (hz : i.natAbs.log2 < 1920) (h : Q (.str (toString i)) H) : rStrI [.int i] H Q := ⟨i, rfl, hz, h⟩
/-! the frame of statements and tests -/
theorem rd_call {sp : Sp} {t : TA} (h : t σ H fun vs H1 => sp vs H1 Q E) : tCall sp [] E t σ H Q := by
  unfold tCall
  simp only [List.append_nil]
  exact h
def mkT (xs : List V) (H : Hp) (Q : VK) : Prop := xs.length ≤ sizeLine ∧ ∀ p H1, Same H H1 → H1 p = some (.tup xs) → Q (.ref p) H1
def mkL (xs : List V) (H : Hp) (Q : VK) : Prop := xs.length ≤ sizeLine ∧ ∀ p H1, H p = none → Same H H1 → H1 p = some (.lst xs) → Q (.ref p) H1
def tTupM (t : TA) : TE := fun σ H Q => t σ H fun xs H1 => mkT xs H1 Q
def tLstM (t : TA) : TE := fun σ H Q => t σ H fun xs H1 => mkL xs H1 Q
theorem pe_tupM {es : List Expr} {t : TA} {x1} {pos : Pos} (h : PA X es t) : PE X (.Tuple es x1 pos) (tTupM t) := fun pins s σ H Q I hq =>
  wpAny_Tuple_spliced (thn (h pos pins s σ H _ I hq) fun us s1 ⟨xs, H1, I1, r, z, q⟩ => by
    have hf : H1 s1.heap.objs.size = none := I1.fresh
    exact ⟨r.length ▸ z, .ref s1.heap.objs.size, _, I1.laid (o := .tup xs) (t' := s1.toks) (fun b u => Heap.get?_push_of_some _) (Nat.le_refl _) ⟨z, us, r, _, Heap.get?_push_size _ rfl, rfl, _, rfl⟩, rfl, q _ _ (same_new hf) upd_same⟩)
theorem pe_lstM {es : List Expr} {t : TA} {pos : Pos} (h : PA X es t) : PE X (.List es pos) (tLstM t) := fun pins s σ H Q I hq =>
  wpAny_List_spliced (thn (h pos pins s σ H _ I hq) fun us s1 ⟨xs, H1, I1, r, z, q⟩ => by
    have hf : H1 s1.heap.objs.size = none := I1.fresh
    exact ⟨r.length ▸ z, .ref s1.heap.objs.size, _, I1.laid (o := .lst xs) (t' := s1.toks) (fun b u => Heap.get?_push_of_some _) (Nat.le_refl _) ⟨z, us, 0, r, Heap.get?_push_size _ rfl⟩, rfl, q _ _ hf (same_new hf) upd_same⟩)
theorem rd_mkT {xs : List V} (hz : xs.length ≤ sizeLine) (h : ∀ p H1, Same H H1 → H1 p = some (.tup xs) → Q (.ref p) H1) : mkT xs H Q := ⟨hz, h⟩
theorem rd_mkL {xs : List V} (hz : xs.length ≤ sizeLine) (h : ∀ p H1, H p = none → Same H H1 → H1 p = some (.lst xs) → Q (.ref p) H1) : mkL xs H Q := ⟨hz, h⟩
/-! places and slices -/
theorem rd_ixL {a : Addr} {xs : List V} {i : Int} {v : V} (e : SqL K H a xs) (g : atI xs i = some v) (h : Q v H) : rIx K (.ref a) (.int i) H Q := .inl ⟨a, xs, i, v, rfl, rfl, e, g, h⟩
theorem rd_ixT {a : Addr} {xs : List V} {i : Int} {v : V} (e : SqT K H a xs) (g : atI xs i = some v) (h : Q v H) : rIx K (.ref a) (.int i) H Q := .inr (.inl ⟨a, xs, i, v, rfl, rfl, e, g, h⟩)
theorem rd_ixS {z : Str} {i : Int} {c : Nat} (hz : z.length ≤ sizeLine) (g : atI z.cps.toList i = some c) (h : Q (.str ⟨#[c]⟩) H) : rIx K (.str z) (.int i) H Q := .inr (.inr ⟨z, i, c, rfl, rfl, hz, g, h⟩)
def Menu : List V → Int → Int → (V → Prop) → Prop
  | [], _, _, _ => True
  | x :: xs, k, i, P => (i = k → P x) ∧ Menu xs (k + 1) i P
theorem menu_get : ∀ {xs : List V} {k i : Int} {P : V → Prop}, k ≤ i → i < k + xs.length → Menu xs k i P → ∃ v, xs[(i - k).toNat]? = some v ∧ P v
  | [], k, i, P, h0, h1, _ => by simp at h1; omega
  | x :: xs, k, i, P, h0, h1, h => by
    by_cases e : i = k
    · subst e
      exact ⟨x, by simp, h.1 rfl⟩
    · obtain ⟨v, e1, e2⟩ := menu_get (xs := xs) (k := k + 1) (i := i) (P := P) (by omega) (by rw [List.length_cons] at h1; omega) h.2
      refine ⟨v, ?_, e2⟩
      rw [show (i - k).toNat = (i - (k + 1)).toNat + 1 by omega]
      simpa using e1
theorem rd_menu {a : Addr} {xs : List V} {i : Int} (e : SqL K H a xs) (h0 : 0 ≤ i) (h1 : i < xs.length) (h : Menu xs 0 i fun v => Q v H) : rIx K (.ref a) (.int i) H Q := by
  obtain ⟨v, e1, e2⟩ := menu_get h0 (by omega) h
  refine rd_ixL e (v := v) ?_ e2
  obtain ⟨j, rfl⟩ : ∃ j : Nat, i = j := ⟨i.toNat, by omega⟩
  exact atI_nat (by simpa using e1)
theorem rd_slS {z : Str} {lo hi : Option Int} (hz : z.length ≤ sizeLine) (h : Q (.str (Txt.slice z lo hi)) H) : rSlP K (.str z) lo hi H Q := .inl ⟨z, rfl, hz, h⟩
theorem rd_slL {a : Addr} {xs : List V} {lo hi : Option Int} (e : SqL K H a xs) (h : ∀ p H1, H p = none → Same H H1 → H1 p = some (.lst (cutV xs lo hi)) → Q (.ref p) H1) : rSlP K (.ref a) lo hi H Q :=
  .inr (.inl ⟨a, xs, rfl, e, fun p hp => h p _ hp (same_new hp) upd_same⟩)
theorem rd_slT {a : Addr} {xs : List V} {lo hi : Option Int} (e : SqT K H a xs) (hc : ¬ (HT.sIx xs.length 0 lo = 0 ∧ HT.sIx xs.length xs.length hi = xs.length)) (h : ∀ p H1, Same H H1 → H1 p = some (.tup (cutV xs lo hi)) → Q (.ref p) H1) : rSlP K (.ref a) lo hi H Q :=
  .inr (.inr ⟨a, xs, rfl, e, hc, fun p hp => h p _ (same_new hp) upd_same⟩)
/-! is -/
def rIsP : R2 := fun x y H Q => (y = .non ∧ Q (.bl (decide (x = .non))) H) ∨ (∃ i j, x = .bl i ∧ y = .bl j ∧ Q (.bl (i == j)) H)
def rIsntP : R2 := fun x y H Q => (y = .non ∧ Q (.bl (!decide (x = .non))) H) ∨ (∃ i j, x = .bl i ∧ y = .bl j ∧ Q (.bl (i != j)) H)
theorem o_is : OpR X (compareOp .Is) rIsP := op_isN.or op_is_bl
theorem rd_isN {x : V} (h : Q (.bl (decide (x = .non))) H) : rIsP x .non H Q := .inl ⟨rfl, h⟩
theorem rd_isB {i j : Bool} (h : Q (.bl (i == j)) H) : rIsP (.bl i) (.bl j) H Q := .inr ⟨i, j, rfl, rfl, h⟩
theorem rd_isntN {x : V} (h : Q (.bl (!decide (x = .non))) H) : rIsntP x .non H Q := .inl ⟨rfl, h⟩
theorem rd_isntB {i j : Bool} (h : Q (.bl (i != j)) H) : rIsntP (.bl i) (.bl j) H Q := .inr ⟨i, j, rfl, rfl, h⟩
/-! == -/
theorem rd_eqI {i j : Int} (h : Q (.bl (decide (i = j))) H) : rEqD (.int i) (.int j) H Q := ⟨.int i, .int j, by simp only [Rep], by simp only [Rep], by simp [D.dep], by simp [D.dep], by simp only [pyEq]; rw [Bool.beq_eq_decide_eq]; exact h⟩
theorem rd_eqS {i j : Str} (h : Q (.bl (decide (i = j))) H) : rEqD (.str i) (.str j) H Q := ⟨.str i, .str j, by simp only [Rep], by simp only [Rep], by simp [D.dep], by simp [D.dep], by simp only [pyEq]; rw [Bool.beq_eq_decide_eq]; exact h⟩
theorem rd_eqB {i j : Bool} (h : Q (.bl (i == j)) H) : rEqD (.bl i) (.bl j) H Q := ⟨.bl i, .bl j, by simp only [Rep], by simp only [Rep], by simp [D.dep], by simp [D.dep], by simp only [pyEq]; exact h⟩
theorem rd_neI {i j : Int} (h : Q (.bl (!decide (i = j))) H) : rNeD (.int i) (.int j) H Q := ⟨.int i, .int j, by simp only [Rep], by simp only [Rep], by simp [D.dep], by simp [D.dep], by simp only [pyEq]; rw [Bool.beq_eq_decide_eq]; exact h⟩
theorem rd_neS {i j : Str} (h : Q (.bl (!decide (i = j))) H) : rNeD (.str i) (.str j) H Q := ⟨.str i, .str j, by simp only [Rep], by simp only [Rep], by simp [D.dep], by simp [D.dep], by simp only [pyEq]; rw [Bool.beq_eq_decide_eq]; exact h⟩
theorem rd_neB {i j : Bool} (h : Q (.bl (!(i == j))) H) : rNeD (.bl i) (.bl j) H Q := ⟨.bl i, .bl j, by simp only [Rep], by simp only [Rep], by simp [D.dep], by simp [D.dep], by simp only [pyEq]; exact h⟩
/-! the beginning -/
theorem start_cc {n : Str} {N : List Str} {v : V} {vs : List V} : start (n :: N) (v :: vs) = some v :: start N vs := by simp [start]
theorem start_cn {n : Str} {N : List Str} : start (n :: N) [] = none :: start N [] := by simp [start, List.replicate_succ]
theorem start_nn : start [] [] = [] := rfl
theorem cxK {CX : CXT} {P : Program} {w : World} {K : PySem.W.Frag} {mg : Str → Option Value} {base : Heap} {N : List Str} {q : Str} {sc : Scope} {f : Addr} {cd : Value} {A : Around} {outer : List Env} {s : Shared} {H : Hp} {E : XK} : (cxOf CX P w K mg base N q sc f cd A outer s H E).nox.K = K := rfl
theorem cxK' {CX : CXT} {P : Program} {w : World} {K : PySem.W.Frag} {mg : Str → Option Value} {base : Heap} {N : List Str} {q : Str} {sc : Scope} {f : Addr} {cd : Value} {A : Around} {outer : List Env} {s : Shared} {H : Hp} {E : XK} : (cxOf CX P w K mg base N q sc f cd A outer s H E).K = K := rfl
theorem compK {X : Cx} {sc : Scope} {N : List Str} {C : Addr} {s : Shared} {H : Hp} {ex : List Addr} : (X.comp sc N C s H ex).K = X.K := rfl
theorem room100 {k : Nat} {A : Around} (r : Room k A) : A.units + 100 < cLine := by have := r.un; omega
/-! an if by what it asks -/
theorem ite_dec {p A B : Prop} [Decidable p] (h1 : p → A) (h2 : ¬ p → B) : if decide p = true then A else B := ite2 (fun h => h1 (of_decide_eq_true h)) fun h => h2 (fun z => h (decide_eq_true z))
theorem ite_ndec {p A B : Prop} [Decidable p] (h1 : ¬ p → A) (h2 : p → B) : if (!decide p) = true then A else B := ite2 (fun h => h1 (by simpa using h)) fun h => h2 (by simpa using h)
end
end L2

set_option Elab.async false
set_option linter.all false
set_option maxRecDepth 100000
set_option maxHeartbeats 4000000
namespace L2
open PySem PySem.Spec PyProof.Rows
section
variable {X : Cx} {K : PySem.W.Frag} {σ : St} {H : Hp} {D : Ends} {Q : VK} {E : XK}
theorem iteNT {A B : Prop} (h : B) : if (!true) = true then A else B := by simpa using h
theorem iteNF {A B : Prop} (h : A) : if (!false) = true then A else B := by simpa using h
/-- an argument list, in a box: so that nobody looks into what is to be shown -/
structure PAw (X : Cx) (es : List Expr) (t : TA) : Prop where
  h : PA X es t
section
variable {x : Str} {st : Stmt} {ps : List Str} {f : Addr} {fd : FuncData} {k : Nat} {sp : Sp} {e : Expr} {es : List Expr} {t : TA} {p pos : Pos} {id T : String} {r : List V → Hp → VK → Prop}
end
/-! ### loops -/
def ForW (J : It) (g : TG) (tb : TS) (D : Ends) (σ : St) (H : Hp) : Prop := ∃ W : Nat → Nat → St → Hp → Prop, (∃ m, W 0 m σ H) ∧ ∀ i m σ H, W i m σ H →
  (J.stop i H ∧ D.nx σ H) ∨ (J.go i H ∧ ∃ N : St → Hp → Prop, (∀ σ' H', N σ' H' → ∃ m', m' < m ∧ W (i + 1) m' σ' H') ∧ ∀ x H', J.yld i H x H' → g x σ H' fun σ2 H2 => tb { D with nx := N, ct := N, bk := D.nx } σ2 H2)
theorem rd_gTup {n : Nat} {t : TGs} {a : Addr} {xs : List V} {R : St → Hp → Prop} (e : SqT K H a xs) (hn : xs.length = n) (h : t xs σ H R) : gTup K n t (.ref a) σ H R := ⟨a, xs, rfl, e, hn, h⟩
theorem rd_exL {a : Addr} {xs : List V} {P : Addr → Prop} (e : SqL K H a xs) (h : P a) : ∃ b, V.ref a = V.ref b ∧ (∃ xs, SqL K H b xs) ∧ P b := ⟨a, rfl, ⟨xs, e⟩, h⟩
theorem rd_exT {a : Addr} {xs : List V} {P : Addr → Prop} (e : SqT K H a xs) (h : P a) : ∃ b, V.ref a = V.ref b ∧ (∃ xs, SqT K H b xs) ∧ P b := ⟨a, rfl, ⟨xs, e⟩, h⟩
theorem rd_exr1 {j : Int} {P : Int → Prop} (h1 : -(2 ^ 62) ≤ j ∧ j < 2 ^ 62) (h : P j) : ∃ k : Int, [V.int j] = [.int k] ∧ -(2 ^ 62) ≤ k ∧ k < 2 ^ 62 ∧ P k := ⟨j, rfl, h1.1, h1.2, h⟩
theorem rd_exr2 {i j : Int} {P : Int → Int → Prop} (h1 : -(2 ^ 62) ≤ i ∧ i < 2 ^ 62 ∧ -(2 ^ 62) ≤ j ∧ j < 2 ^ 62) (h : P i j) : ∃ i' j' : Int, [V.int i, V.int j] = [.int i', .int j'] ∧ (-(2 ^ 62) ≤ i' ∧ i' < 2 ^ 62 ∧ -(2 ^ 62) ≤ j' ∧ j' < 2 ^ 62) ∧ P i' j' := ⟨i, j, rfl, h1, h⟩
theorem forT {a : Addr} {xs : List V} {g : TG} {tb : TS} (Pv : Nat → St → Hp → Prop) (h0 : Pv 0 σ H) (hl : ∀ i σ H, Pv i σ H → SqT K H a xs)
    (hs : ∀ i x σ H, i < xs.length → xs[i]? = some x → Pv i σ H → g x σ H fun σ2 H2 => tb { nx := Pv (i + 1), rt := D.rt, ct := Pv (i + 1), bk := D.nx } σ2 H2) (hd : ∀ σ H, Pv xs.length σ H → D.nx σ H) : ForW (Itt K a) g tb D σ H :=
  for_tup Pv h0 (fun i σ H _ => hl i σ H) (fun i x σ H e p => hs i x σ H (List.getElem?_eq_some_iff.mp e).1 e p) hd
theorem forR {lo : Int} {n : Nat} {g : TG} {tb : TS} (Pv : Nat → St → Hp → Prop) (h0 : Pv 0 σ H)
    (hs : ∀ i σ H, i < n → Pv i σ H → g (.int (lo + i)) σ H fun σ2 H2 => tb { nx := Pv (i + 1), rt := D.rt, ct := Pv (i + 1), bk := D.nx } σ2 H2) (hd : ∀ σ H, Pv n σ H → D.nx σ H) : ForW (Itr lo n) g tb D σ H :=
  for_range Pv h0 hs hd
/-! ### comprehensions -/
theorem lcS {z : Str} {ix : List Nat} {te : TE} (f : Nat → V) (hz : z.length ≤ sizeLine) (hE : ∀ c ∈ z.cps.toList, ∀ R : VK, R (f c) H → te (some (.str ⟨#[c]⟩) :: pick ix σ) H R)
    (hQ : ∀ p H1, H p = none → Same H H1 → H1 p = some (.lst (z.cps.toList.map f)) → Q (.ref p) H1) : LcW (Its z) ix σ tYes te Q H :=
  lc_str f (fun _ => true) hz (fun _ _ _ h => h) (fun c hc _ R h => hE c hc R h) (fun p hp => hQ p _ hp (same_new hp) (by rw [upd_same, List.filter_eq_self.mpr (fun _ _ => rfl)]))
/-! ### built-ins -/
def rAll (K : PySem.W.Frag) : List V → Hp → VK → Prop := fun xs H Q => ∃ (p : Addr) (bs : List Bool), xs = [.ref p] ∧ SqL K H p (bs.map V.bl) ∧ Q (.bl (bs.all id)) H
theorem c_all (hc : X.calm = true) : CallR X (.builtin "all") (rAll X.K) := call_all hc
theorem rd_all {p : Addr} (bs : List Bool) (e : SqL K H p (bs.map V.bl)) (h : Q (.bl (bs.all id)) H) : rAll K [.ref p] H Q := ⟨p, bs, rfl, e, h⟩
def rList (K : PySem.W.Frag) : List V → Hp → VK → Prop := fun xs H Q => ∃ p ys, xs = [.ref p] ∧ (SqL K H p ys ∨ SqT K H p ys) ∧ ∀ l, H l = none → Q (.ref l) (upd H l (.lst ys))
theorem rd_listL {p : Addr} {ys : List V} (e : SqL K H p ys) (h : ∀ l H1, H l = none → Same H H1 → H1 l = some (.lst ys) → Q (.ref l) H1) : rList K [.ref p] H Q := ⟨p, ys, rfl, .inl e, fun l hl => h l _ hl (same_new hl) upd_same⟩
theorem rd_listT {p : Addr} {ys : List V} (e : SqT K H p ys) (h : ∀ l H1, H l = none → Same H H1 → H1 l = some (.lst ys) → Q (.ref l) H1) : rList K [.ref p] H Q := ⟨p, ys, rfl, .inr e, fun l hl => h l _ hl (same_new hl) upd_same⟩
def tDM : TE := fun _ H Q => ∀ d H1, H d = none → Same H H1 → H1 d = some (.dK []) → Q (.ref d) H1
theorem rd_dnew (h : ∀ d H1, H d = none → Same H H1 → H1 d = some (.dK []) → Q (.ref d) H1) : tDM σ H Q := h
end
/-! ### keys, values, stamps, entries and deeds, over plain data -/
mutual
def smD : L2.D → Bool
  | .str z => decide (z.length ≤ sizeLine)
  | .lst ds => smDs ds
  | .tup ds => smDs ds
  | _ => true
def smDs : List L2.D → Bool
  | [] => true
  | d :: ds => smD d && smDs ds
end
def plainD (d : L2.D) (lo hi : Int) : Bool := match d with
  | .str z => plainB z lo hi
  | _ => false
def stampD : L2.D → Bool
  | .int i => decide (1 ≤ i ∧ i ≤ 999999999)
  | _ => false
def valD : L2.D → Bool
  | .non => true
  | d => plainD d 0 40
def entryD : L2.D → Bool
  | .tup [a, b, c] => plainD a 1 20 && stampD b && valD c
  | _ => false
def wordD (d : L2.D) (x : Str) : Bool := match d with
  | .str z => decide (z = x)
  | _ => false
def deedD : L2.D → Bool
  | .tup [a, b, c] => wordD a "put" && plainD b 1 20 && plainD c 0 40
  | .tup [a, b] => wordD a "drop" && plainD b 1 20
  | _ => false
theorem Same.get {H H1 : Hp} {p : Addr} {o : HO} (s : Same H H1) (e : H p = some o) : H1 p = some o := s p o e
theorem Same.tr {H H1 H2 : Hp} (s : Same H1 H2) (e : Same H H1) : Same H H2 := fun p o h => s p o (e p o h)
theorem Rep.int' {H : Hp} {i : Int} : Rep H (.int i) (.int i) := by simp only [Rep]
theorem Rep.str' {H : Hp} {i : Str} : Rep H (.str i) (.str i) := by simp only [Rep]
theorem Rep.bl' {H : Hp} {i : Bool} : Rep H (.bl i) (.bl i) := by simp only [Rep]
theorem Rep.non' {H : Hp} : Rep H .non .non := by simp only [Rep]
theorem Rep.mkT {H : Hp} {p : Addr} {vs : List V} {ds : List L2.D} (h : H p = some (.tup vs)) (r : Reps H ds vs) : Rep H (.tup ds) (.ref p) := by simp only [Rep]; exact ⟨p, vs, rfl, h, r⟩
theorem Rep.mkL {H : Hp} {p : Addr} {vs : List V} {ds : List L2.D} (h : H p = some (.lst vs)) (r : Reps H ds vs) : Rep H (.lst ds) (.ref p) := by simp only [Rep]; exact ⟨p, vs, rfl, h, r⟩
theorem Rep.mkD {H : Hp} {p : Addr} {kvs : List (Key × V)} (h : H p = some (.dK kvs)) : Rep H .dct (.ref p) := by simp only [Rep]; exact ⟨p, kvs, rfl, h⟩
theorem Reps.nil' {H : Hp} : Reps H [] [] := by simp only [Reps]
theorem Reps.cons' {H : Hp} {d : L2.D} {v : V} {ds : List L2.D} {vs : List V} (h : Rep H d v) (r : Reps H ds vs) : Reps H (d :: ds) (v :: vs) := by simp only [Reps]; exact ⟨v, vs, rfl, h, r⟩
theorem Rep.tupE {H : Hp} {ds : List L2.D} {v : V} (h : Rep H (.tup ds) v) : ∃ a vs, v = .ref a ∧ H a = some (.tup vs) ∧ Reps H ds vs := by simp only [Rep] at h; exact h
theorem Reps.consE {H : Hp} {d : L2.D} {ds : List L2.D} {vs : List V} (h : Reps H (d :: ds) vs) : ∃ v r, vs = v :: r ∧ Rep H d v ∧ Reps H ds r := by simp only [Reps] at h; exact h
theorem Reps.nilE {H : Hp} {vs : List V} (h : Reps H [] vs) : vs = [] := by simp only [Reps] at h; exact h
theorem SqL.same {K : PySem.W.Frag} {H H' : Hp} {a : Addr} {xs : List V} (s : Same H H') (e : SqL K H a xs) : SqL K H' a xs := s.seq e
end L2

set_option Elab.async false
set_option linter.all false
set_option maxRecDepth 100000
set_option maxHeartbeats 4000000
namespace L2
open PySem PySem.Spec PyProof.Rows
/-! ### one step of a reading, found by its head -/
class RdS (g : Prop) (n : outParam Prop) : Prop where
  imp : n → g
theorem rd_go {g n : Prop} [h : RdS g n] (k : n) : g := h.imp k
class GetS (σ : St) (i : Nat) (v : outParam V) : Prop where
  get : σ[i]? = some (some v)
instance GetS.zero {v : V} {r : St} : GetS (some v :: r) 0 v := ⟨rfl⟩
instance GetS.succ {x : Option V} {r : St} {i : Nat} {v : V} [h : GetS r i v] : GetS (x :: r) (i + 1) v := ⟨by rw [List.getElem?_cons_succ]; exact h.get⟩
class SetS (σ : St) (i : Nat) (v : Option V) (σ' : outParam St) : Prop where
  set : σ.set i v = σ'
instance SetS.zero {x v : Option V} {r : St} : SetS (x :: r) 0 v (v :: r) := ⟨rfl⟩
instance SetS.succ {x v : Option V} {r r' : St} {i : Nat} [h : SetS r i v r'] : SetS (x :: r) (i + 1) v (x :: r') := ⟨by rw [List.set_cons_succ, h.set]⟩
class PickS (ix : List Nat) (σ : St) (σ' : outParam St) : Prop where
  eq : pick ix σ = σ'
instance PickS.nil {σ : St} : PickS [] σ [] := ⟨rfl⟩
instance PickS.cons {i : Nat} {ix : List Nat} {σ σ' : St} {v : V} [g : GetS σ i v] [h : PickS ix σ σ'] : PickS (i :: ix) σ (some v :: σ') := ⟨by
  show ((σ[i]?).join :: pick ix σ) = _
  rw [g.get, h.eq]
  rfl⟩
section
variable {K : PySem.W.Frag} {σ σ' : St} {H : Hp} {D : Ends} {Q : VK} {E : XK} {t u : TS} {te ta tb tc : TE} {c c' : TT} {R : Bool → Hp → Prop} {r r' : R2} {i j : Int} {n : Nat} {v x : V} {a b : Bool} {z y : Str} {P A B : Prop}
instance i1 : RdS (tSeq t u D σ H) (t { D with nx := u D } σ H) := ⟨id⟩
instance i2 {g : TG} : RdS (tAsg te g D σ H) (te σ H fun x H1 => g x σ H1 D.nx) := ⟨id⟩
instance i3 : RdS (tRet te D σ H) (te σ H D.rt) := ⟨id⟩
instance i4 : RdS (tRetN D σ H) (D.rt .non H) := ⟨id⟩
instance i5 : RdS (tDrop te D σ H) (te σ H fun _ H1 => D.nx σ H1) := ⟨id⟩
instance i6 : RdS (tNext D σ H) (D.nx σ H) := ⟨id⟩
instance i7 : RdS (tIfS c t u D σ H) (c σ H fun b H1 => if b = true then t D σ H1 else u D σ H1) := ⟨id⟩
instance i8 [g : GetS σ n v] : RdS (tVar n σ H Q) (Q v H) := ⟨fun h => ⟨v, g.get, h⟩⟩
instance i9 : RdS (tC v σ H Q) (Q v H) := ⟨id⟩
instance i10 : RdS (tOp r ta tb σ H Q) (ta σ H fun x H1 => tb σ H1 fun y H2 => r x y H2 Q) := ⟨id⟩
instance i11 {r : V → Hp → VK → Prop} : RdS (tUn r ta σ H Q) (ta σ H fun x H1 => r x H1 Q) := ⟨id⟩
instance i12 {g : Int → Int → V} : RdS (rI0 g (.int i) (.int j) H Q) (Q (g i j) H) := ⟨fun h => ⟨i, j, rfl, rfl, h⟩⟩
instance i13 {g : Int → V} : RdS (rU g (.int i) H Q) (Q (g i) H) := ⟨fun h => ⟨i, rfl, h⟩⟩
instance i14 : RdS (rAddP K (.int i) (.int j) H Q) (Q (.int (i + j)) H) := ⟨rd_addI⟩
instance i15 : RdS (rLtP (.int i) (.int j) H Q) (Q (.bl (decide (i < j))) H) := ⟨rd_ltI⟩
instance i16 : RdS (rLtP (.str z) (.str y) H Q) (Q (.bl (decide (z.cps.toList < y.cps.toList))) H) := ⟨rd_ltS⟩
instance i17 : RdS (rLeP (.int i) (.int j) H Q) (Q (.bl (decide (i ≤ j))) H) := ⟨rd_leI⟩
instance i18 : RdS (rLeP (.str z) (.str y) H Q) (Q (.bl (!decide (y.cps.toList < z.cps.toList))) H) := ⟨rd_leS⟩
instance i19 : RdS (rEqD (.int i) (.int j) H Q) (Q (.bl (decide (i = j))) H) := ⟨rd_eqI⟩
instance i20 : RdS (rEqD (.str z) (.str y) H Q) (Q (.bl (decide (z = y))) H) := ⟨rd_eqS⟩
instance i21 : RdS (rEqD (.bl a) (.bl b) H Q) (Q (.bl (a == b)) H) := ⟨rd_eqB⟩
instance i22 : RdS (rNeD (.int i) (.int j) H Q) (Q (.bl (!decide (i = j))) H) := ⟨rd_neI⟩
instance i23 : RdS (rNeD (.str z) (.str y) H Q) (Q (.bl (!decide (z = y))) H) := ⟨rd_neS⟩
instance i24 : RdS (rNeD (.bl a) (.bl b) H Q) (Q (.bl (!(a == b))) H) := ⟨rd_neB⟩
instance i25 : RdS (tTest te σ H R) (te σ H fun x H' => ∃ k, x = .bl k ∧ R k H') := ⟨id⟩
instance i26 : RdS (tB te σ H R) (te σ H fun x H' => ∃ k, x = .bl k ∧ R k H') := ⟨id⟩
instance i27 {F : Bool → Prop} : RdS (∃ c, V.bl a = V.bl c ∧ F c) (F a) := ⟨fun h => ⟨a, rfl, h⟩⟩
instance i28 {F : Int → Prop} : RdS (∃ c, V.int i = V.int c ∧ F c) (F i) := ⟨fun h => ⟨i, rfl, h⟩⟩
instance i29 {F : Str → Prop} : RdS (∃ c, V.str z = V.str c ∧ F c) (F z) := ⟨fun h => ⟨z, rfl, h⟩⟩
instance i30 : RdS (tAnd c c' σ H R) (c σ H fun b H1 => if b = true then c' σ H1 R else R false H1) := ⟨id⟩
instance i31 : RdS (tOr c c' σ H R) (c σ H fun b H1 => if b = true then R true H1 else c' σ H1 R) := ⟨id⟩
instance i32 : RdS (tNot c σ H R) (c σ H fun b H1 => R (!b) H1) := ⟨id⟩
instance i33 : RdS (tAndV ta tb σ H Q) (ta σ H fun x H1 => ∃ c, x = .bl c ∧ if c = true then tb σ H1 Q else Q (.bl false) H1) := ⟨id⟩
instance i34 : RdS (tOrV ta tb σ H Q) (ta σ H fun x H1 => ∃ c, x = .bl c ∧ if c = true then Q (.bl true) H1 else tb σ H1 Q) := ⟨id⟩
instance i35 : RdS (tNotV ta σ H Q) (ta σ H fun x H1 => ∃ c, x = .bl c ∧ Q (.bl (!c)) H1) := ⟨id⟩
instance i36 : RdS (tIf c ta tb σ H Q) (c σ H fun b H1 => if b = true then ta σ H1 Q else tb σ H1 Q) := ⟨id⟩
instance i37 : RdS (tChain r r' ta tb tc σ H Q) (ta σ H fun x H1 => tb σ H1 fun y H2 => r x y H2 fun z H3 => ∃ k, z = .bl k ∧ (if k = true then tc σ H3 fun w' H4 => r' y w' H4 Q else Q (.bl false) H3)) := ⟨id⟩
instance i38 {sp : Sp} {t : TA} : RdS (tCall sp [] E t σ H Q) (t σ H fun vs H1 => sp vs H1 Q E) := ⟨rd_call⟩
instance i39 {r : List V → Hp → VK → Prop} {t : TA} : RdS (tCB r t σ H Q) (t σ H fun vs H1 => r vs H1 Q) := ⟨id⟩
instance i40 {F : List V → Hp → Prop} : RdS (tNil σ H F) (F [] H) := ⟨id⟩
instance i41 {tr : TA} {F : List V → Hp → Prop} : RdS (tCons ta tr σ H F) (ta σ H fun x H1 => tr σ H1 fun xs H2 => F (x :: xs) H2) := ⟨id⟩
instance i42 {t : TA} : RdS (tTupM t σ H Q) (t σ H fun xs H1 => mkT xs H1 Q) := ⟨id⟩
instance i43 {t : TA} : RdS (tLstM t σ H Q) (t σ H fun xs H1 => mkL xs H1 Q) := ⟨id⟩
instance i44 : RdS (rMax [.int i, .int j] H Q) (Q (.int (max i j)) H) := ⟨rd_max⟩
instance i45 : RdS (rMin [.int i, .int j] H Q) (Q (.int (min i j)) H) := ⟨rd_min⟩
instance i46 : RdS (rIsP x .non H Q) (Q (.bl (decide (x = .non))) H) := ⟨rd_isN⟩
instance i47 : RdS (rIsP (.bl a) (.bl b) H Q) (Q (.bl (a == b)) H) := ⟨rd_isB⟩
instance i48 : RdS (rIsntP x .non H Q) (Q (.bl (!decide (x = .non))) H) := ⟨rd_isntN⟩
instance i49 : RdS (rIsntP (.bl a) (.bl b) H Q) (Q (.bl (a != b)) H) := ⟨rd_isntB⟩
instance i50 {r : V → Option Int → Option Int → Hp → VK → Prop} {tl th : TO} : RdS (tSl r te tl th σ H Q) (te σ H fun x H1 => tl σ H1 fun l H2 => th σ H2 fun u H3 => r x l u H3 Q) := ⟨id⟩
instance i51 {F : Option Int → Hp → Prop} : RdS (tNoPart σ H F) (F none H) := ⟨id⟩
instance i52 {F : Option Int → Hp → Prop} : RdS (tPart te σ H F) (te σ H fun x H1 => ∃ i, x = .int i ∧ F (some i) H1) := ⟨id⟩
instance i53 : RdS (if true = true then A else B) A := ⟨iteT⟩
instance i54 : RdS (if false = true then A else B) B := ⟨iteF⟩
instance i55 : RdS (if (!true) = true then A else B) B := ⟨iteNT⟩
instance i56 : RdS (if (!false) = true then A else B) A := ⟨iteNF⟩
instance i57 {ix : List Nat} {wi : TI} : RdS (tLC ix wi c te σ H Q) (wi σ H fun J H1 => LcW J ix σ c te Q H1) := ⟨id⟩
instance i58 {wi : TI} {g : TG} : RdS (tFor wi g t D σ H) (wi σ H fun J H1 => ForW J g t D σ H1) := ⟨id⟩
instance i59 {F : St → Hp → Prop} [s : SetS σ n (some v) σ'] : RdS (gName n v σ H F) (F σ' H) := ⟨fun h => by show F (σ.set n (some v)) H; rw [s.set]; exact h⟩
instance i60 {F : It → Hp → Prop} : RdS (iStr te σ H F) (te σ H fun x H1 => ∃ z, x = .str z ∧ F (Its z) H1) := ⟨id⟩
instance i61 {F : It → Hp → Prop} : RdS (iList K te σ H F) (te σ H fun x H1 => ∃ a, x = .ref a ∧ (∃ xs, SqL K H1 a xs) ∧ F (Itl K a) H1) := ⟨id⟩
instance i62 {F : It → Hp → Prop} : RdS (iTup K te σ H F) (te σ H fun x H1 => ∃ a, x = .ref a ∧ (∃ xs, SqT K H1 a xs) ∧ F (Itt K a) H1) := ⟨id⟩
instance i63 {t : TA} {F : It → Hp → Prop} : RdS (iRng1 t σ H F) (t σ H fun vs H1 => ∃ j : Int, vs = [.int j] ∧ -(2 ^ 62) ≤ j ∧ j < 2 ^ 62 ∧ F (Itr 0 j.toNat) H1) := ⟨id⟩
instance i64 {t : TA} {F : It → Hp → Prop} : RdS (iRng2 t σ H F) (t σ H fun vs H1 => ∃ i j : Int, vs = [.int i, .int j] ∧ (-(2 ^ 62) ≤ i ∧ i < 2 ^ 62 ∧ -(2 ^ 62) ≤ j ∧ j < 2 ^ 62) ∧ F (Itr i (j - i).toNat) H1) := ⟨id⟩
instance i65 {F : St → Hp → Prop} : RdS (gNil [] σ H F) (F σ H) := ⟨fun h => ⟨rfl, h⟩⟩
instance i66 {g : TG} {gs : TGs} {vs : List V} {F : St → Hp → Prop} : RdS (gCons g gs (v :: vs) σ H F) (g v σ H fun σ' H' => gs vs σ' H' F) := ⟨fun h => ⟨v, vs, rfl, h⟩⟩
instance i68 : RdS (tYes σ H R) (R true H) := ⟨id⟩
class KitS (n T : String) (b : outParam Bool) : Prop where
  eq : ∀ K : PySem.W.Frag, PySem.W.kitOne K (.type n) (.type T) = some b
instance : KitS "NoneType" "str" false := ⟨kit_non_str⟩
instance : KitS "NoneType" "int" false := ⟨kit_non_int⟩
instance : KitS "NoneType" "bool" false := ⟨kit_non_bool⟩
instance : KitS "NoneType" "tuple" false := ⟨kit_non_tuple⟩
instance : KitS "NoneType" "list" false := ⟨kit_non_list⟩
instance : KitS "NoneType" "dict" false := ⟨kit_non_dict⟩
instance : KitS "bool" "str" false := ⟨kit_bl_str⟩
instance : KitS "bool" "int" true := ⟨kit_bl_int⟩
instance : KitS "bool" "bool" true := ⟨kit_bl_bool⟩
instance : KitS "bool" "tuple" false := ⟨kit_bl_tuple⟩
instance : KitS "bool" "list" false := ⟨kit_bl_list⟩
instance : KitS "bool" "dict" false := ⟨kit_bl_dict⟩
instance : KitS "int" "str" false := ⟨kit_int_str⟩
instance : KitS "int" "int" true := ⟨kit_int_int⟩
instance : KitS "int" "bool" false := ⟨kit_int_bool⟩
instance : KitS "int" "tuple" false := ⟨kit_int_tuple⟩
instance : KitS "int" "list" false := ⟨kit_int_list⟩
instance : KitS "int" "dict" false := ⟨kit_int_dict⟩
instance : KitS "str" "str" true := ⟨kit_str_str⟩
instance : KitS "str" "int" false := ⟨kit_str_int⟩
instance : KitS "str" "bool" false := ⟨kit_str_bool⟩
instance : KitS "str" "tuple" false := ⟨kit_str_tuple⟩
instance : KitS "str" "list" false := ⟨kit_str_list⟩
instance : KitS "str" "dict" false := ⟨kit_str_dict⟩
instance : KitS "list" "str" false := ⟨kit_lst_str⟩
instance : KitS "list" "int" false := ⟨kit_lst_int⟩
instance : KitS "list" "bool" false := ⟨kit_lst_bool⟩
instance : KitS "list" "tuple" false := ⟨kit_lst_tuple⟩
instance : KitS "list" "list" true := ⟨kit_lst_list⟩
instance : KitS "list" "dict" false := ⟨kit_lst_dict⟩
instance : KitS "tuple" "str" false := ⟨kit_tup_str⟩
instance : KitS "tuple" "int" false := ⟨kit_tup_int⟩
instance : KitS "tuple" "bool" false := ⟨kit_tup_bool⟩
instance : KitS "tuple" "tuple" true := ⟨kit_tup_tuple⟩
instance : KitS "tuple" "list" false := ⟨kit_tup_list⟩
instance : KitS "tuple" "dict" false := ⟨kit_tup_dict⟩
instance : KitS "dict" "str" false := ⟨kit_dK_str⟩
instance : KitS "dict" "int" false := ⟨kit_dK_int⟩
instance : KitS "dict" "bool" false := ⟨kit_dK_bool⟩
instance : KitS "dict" "tuple" false := ⟨kit_dK_tuple⟩
instance : KitS "dict" "list" false := ⟨kit_dK_list⟩
instance : KitS "dict" "dict" true := ⟨kit_dK_dict⟩
instance i70 {T : String} [k : KitS "NoneType" T b] : RdS (rIs K [.non, .ty T] H Q) (Q (.bl b) H) := ⟨rd_is .non (k.eq K)⟩
instance i71 {T : String} [k : KitS "bool" T b] : RdS (rIs K [.bl a, .ty T] H Q) (Q (.bl b) H) := ⟨rd_is (.bl a) (k.eq K)⟩
instance i72 {T : String} [k : KitS "int" T b] : RdS (rIs K [.int i, .ty T] H Q) (Q (.bl b) H) := ⟨rd_is (.int i) (k.eq K)⟩
instance i73 {T : String} [k : KitS "str" T b] : RdS (rIs K [.str z, .ty T] H Q) (Q (.bl b) H) := ⟨rd_is (.str z) (k.eq K)⟩
theorem rd_isL {T : String} [k : KitS "list" T b] {p : Addr} {xs : List V} (e : H p = some (.lst xs)) (h : Q (.bl b) H) : rIs K [.ref p, .ty T] H Q := rd_is (.lst e) (k.eq K) h
theorem rd_isT {T : String} [k : KitS "tuple" T b] {p : Addr} {xs : List V} (e : H p = some (.tup xs)) (h : Q (.bl b) H) : rIs K [.ref p, .ty T] H Q := rd_is (.tup e) (k.eq K) h
theorem rd_isD {T : String} [k : KitS "dict" T b] {p : Addr} {xs : List (Key × V)} (e : H p = some (.dK xs)) (h : Q (.bl b) H) : rIs K [.ref p, .ty T] H Q := rd_is (.dK e) (k.eq K) h
end
end L2

set_option Elab.async false
set_option linter.all false
set_option maxRecDepth 100000
set_option maxHeartbeats 4000000
namespace L2
open PySem PySem.Spec PyProof.Rows PySem.SeqAt
open AutoSeq1 (wpAny_loadPart')
/-! ### a tuple times 0 or 1 -/
section
variable {X : Cx} {K : PySem.W.Frag} {H : Hp} {Q : VK}
def rRepT : R2 := fun x y H Q => ∃ p xs k, x = .ref p ∧ y = .int k ∧ H p = some (.tup xs) ∧ xs ≠ [] ∧ ((k = 1 ∧ Q (.ref p) H) ∨ (k = 0 ∧ ∀ q, H q = none → Q (.ref q) (upd H q (.tup []))))
def rMulQ : R2 := fun x y H Q => rMulP x y H Q ∨ rRepT x y H Q
end
end L2

set_option Elab.async false
set_option linter.all false
set_option maxRecDepth 100000
set_option maxHeartbeats 4000000
namespace L2
open PySem PySem.Spec PyProof.Rows
/-! ### the rules in boxes: so that nobody looks into what is to be shown -/
structure BE (X : Cx) (e : Expr) (t : TE) : Prop where
  h : PE X e t
structure BT (X : Cx) (e : Expr) (t : TT) : Prop where
  h : PT X e t
structure BW (X : Cx) (e : Expr) (t : TT) : Prop where
  h : PW X e t
structure BA (X : Cx) (es : List Expr) (t : TA) : Prop where
  h : PA X es t
structure BS (X : Cx) (s : Stmt) (t : TS) : Prop where
  h : PS X s t
structure BSs (X : Cx) (s : List Stmt) (t : TS) : Prop where
  h : PSs X s t
structure BG (X : Cx) (e : Expr) (t : TG) : Prop where
  h : PG X e t
structure BGs (X : Cx) (e : List Expr) (t : TGs) : Prop where
  h : PGs X e t
structure BI (X : Cx) (tg e : Expr) (t : TI) : Prop where
  h : PI X tg e t
structure BO (X : Cx) (e : Option Expr) (t : TO) : Prop where
  h : PO X e t
structure BF (X : Cx) (es : List Expr) (t : TT) : Prop where
  h : PIfs X es t
section
variable {X : Cx} {a b c e o : Expr} {es : List Expr} {ta tb tc te : TE} {tA tB' : TT} {t : TA} {pos p p2 : Pos} {st : Stmt} {rest xs ys : List Stmt} {s u : TS}
theorem bv (i : Nat) {x : Str} (hN : X.N[i]? = some x := by rfl) (hv : Vis X.env.scope x := by first | exact Or.inl rfl | exact Or.inr (Or.inl rfl) | exact Or.inr (Or.inr rfl)) (hd : (x == ("__debug__" : Str)) = false := by decide)
    (hcd : (x == ("__classdict__" : Str)) = false := by decide) : BE X (.Name x pos) (tVar i) := ⟨pv i hN hv hd hcd⟩
theorem b_int {i j} : BE X (.Constant (.int i) j pos) (tC (.int i)) := ⟨pe_int⟩
theorem b_bl {i j} : BE X (.Constant (.bool i) j pos) (tC (.bl i)) := ⟨pe_bl⟩
theorem b_non {j} : BE X (.Constant .none j pos) (tC .non) := ⟨pe_non⟩
theorem b_str {x j} : BE X (.Constant (.str x) j pos) (tC (.str x)) := ⟨pe_str⟩
theorem b_gl {x : Str} {v : V} (h : ∃ u, X.mg x = some u ∧ RelV v u) (hg : Gl X x := by rfl) (hd : (x == ("__debug__" : Str)) = false := by decide) : BE X (.Name x pos) (tC v) := ⟨pe_gl h hg hd⟩
theorem b_ty {x : Str} {T : String} (hm : X.mg x = none) (hv : bootBuiltins x = some (.type T)) (hg : Gl X x := by rfl) (hn : x ≠ "__name__" := by decide) (hd : (x == ("__debug__" : Str)) = false := by decide) : BE X (.Name x pos) (tC (.ty T)) := ⟨pe_ty hm hv hg hn hd⟩
theorem b_op {op : Operator} {r : R2} (ho : OpR X (binaryOp op) r) (ha : BE X a ta) (hb : BE X b tb) : BE X (.BinOp a op b pos) (tOp r ta tb) := ⟨pe_op ho ha.h hb.h⟩
theorem b_un {op : UnaryOp} {r : V → Hp → VK → Prop} (ho : UnR X (unaryOp op) r) (ha : BE X a ta) : BE X (.UnaryOp op a pos) (tUn r ta) := ⟨pe_un ho ha.h⟩
theorem b_not (ha : BE X a ta) : BE X (.UnaryOp .Not a pos) (tNotV ta) := ⟨pe_not ha.h⟩
theorem b_cmp {op : CmpOp} {r : R2} (ho : OpR X (compareOp op) r) (ha : BE X a ta) (hb : BE X b tb) (hm : behindInMarks op b = false) : BE X (.Compare a [op] [b] pos) (tOp r ta tb) := ⟨pe_cmpR ho ha.h hb.h hm⟩
theorem b_one {op} (h : BE X a ta) : BE X (.BoolOp op [a] pos) ta := ⟨pe_one h.h⟩
theorem b_and (ha : BE X a ta) (hb : BE X (.BoolOp .And (b :: es) pos) tb) : BE X (.BoolOp .And (a :: b :: es) pos) (tAndV ta tb) := ⟨pe_and ha.h hb.h⟩
theorem b_if (hc : BT X c tA) (ha : BE X a ta) (hb : BE X b tb) : BE X (.IfExp c a b pos) (tIf tA ta tb) := ⟨pe_ifExp hc.h ha.h hb.h⟩
theorem ba_nil : BA X [] tNil := ⟨pa_nil⟩
theorem ba_c (ha : BE X e te) (hr : BA X es t) (h : isStar e = false) : BA X (e :: es) (tCons te t) := ⟨pa_c ha.h hr.h h⟩
theorem b_lst (h : BA X es t) : BE X (.List es pos) (tLstM t) := ⟨pe_lstM h.h⟩
theorem b_tup {x1} (h : BA X es t) : BE X (.Tuple es x1 pos) (tTupM t) := ⟨pe_tupM h.h⟩
theorem bo_none : BO X none tNoPart := ⟨po_none⟩
theorem bo_some (h : BE X e te) : BO X (some e) (tPart te) := ⟨po_some h.h⟩
theorem b_slice {lo hi : Option Expr} {tl th : TO} {r : V → Option Int → Option Int → Hp → VK → Prop} (hr : SlR X r) (he : BE X e te) (hl : BO X lo tl) (hu : BO X hi th) : BE X (.Subscript e (.Slice lo hi none p2) pos) (tSl r te tl th) := ⟨pe_slice hr he.h hl.h hu.h⟩
theorem b_ix {r : R2} (hr : IxR X r) (ha : BE X a ta) (hb : BE X b tb) (hs : PlainIx b) : BE X (.Subscript a b pos) (tOp r ta tb) := ⟨pe_ix hr ha.h hb.h hs⟩
theorem b_f {x : Str} {sf : Stmt} {ps : List Str} {f : Addr} {fd : FuncData} {k : Nat} {sp : Sp} (N : Fn X.K X.mg x sf ps f fd) (G : FnOk X.prog X.w X.K X.mg X.base CX0 k f fd ps sp) (hr : Room k X.A) (ha : BA X (e :: es) t) (hg : Gl X x := by rfl) (hdb : (x == ("__debug__" : Str)) = false := by decide) (h1 : isStar e = false := by rfl) (h2 : noStar es = true := by rfl) :
    BE X (.Call (.Name x p) (e :: es) [] pos) (tCall sp [] E0 t) := ⟨pe_f N G hr ha.h hg hdb h1 h2⟩
theorem b_b {x : Str} {id : String} {r : List V → Hp → VK → Prop} (hc : CallR X (.builtin id) r) (hm : X.mg x = none) (hv : bootBuiltins x = some (.builtin id)) (ha : BA X (e :: es) t) (hg : Gl X x := by rfl) (hn : x ≠ "__name__" := by decide) (hdb : (x == ("__debug__" : Str)) = false := by decide) (h1 : isStar e = false := by rfl) (h2 : noStar es = true := by rfl) :
    BE X (.Call (.Name x p) (e :: es) [] pos) (tCB r t) := ⟨pe_b hc hm hv ha.h hg hn hdb h1 h2⟩
theorem b_t {x : Str} {T : String} {r : List V → Hp → VK → Prop} (hc : CallR X (.type T) r) (hm : X.mg x = none) (hv : bootBuiltins x = some (.type T)) (ha : BA X (e :: es) t) (hg : Gl X x := by rfl) (hn : x ≠ "__name__" := by decide) (hdb : (x == ("__debug__" : Str)) = false := by decide) (h1 : isStar e = false := by rfl) (h2 : noStar es = true := by rfl) :
    BE X (.Call (.Name x p) (e :: es) [] pos) (tCB r t) := ⟨pe_t hc hm hv ha.h hg hn hdb h1 h2⟩
theorem bi_r1 {tg : Expr} (hm : X.mg "range" = none) (ha : BA X [a] t) (hg : Gl X "range" := by rfl) (h1 : isStar a = false := by rfl) : BI X tg (.Call (.Name "range" p) [a] [] pos) (iRng1 t) := ⟨pi_r1 hm ha.h hg h1⟩
theorem bi_r2 {tg : Expr} (hm : X.mg "range" = none) (ha : BA X [a, b] t) (hg : Gl X "range" := by rfl) (h1 : isStar a = false := by rfl) (h2 : isStar b = false := by rfl) : BI X tg (.Call (.Name "range" p) [a, b] [] pos) (iRng2 t) := ⟨pi_r2 hm ha.h hg h1 h2⟩
theorem bi_list {tg : Expr} (h : BE X e te) : BI X tg e (iList X.K te) := ⟨pi_list h.h⟩
theorem bi_tup {tg : Expr} (h : BE X e te) : BI X tg e (iTup X.K te) := ⟨pi_tup h.h⟩
theorem bi_str {tg : Expr} (h : BE X e te) : BI X tg e (iStr te) := ⟨pi_str h.h⟩
theorem bf_nil : BF X [] tYes := ⟨pifs_nil⟩
theorem bf_one (h : BT X c tA) : BF X [c] tA := ⟨pifs_one h.h⟩
theorem b_lc {elt iter : Expr} {ifs : List Expr} {px : Pos} {scope osc : Scope} {x : Str} {fv : List Str} {ix : List Nat} {wi : TI} {tt : TT} (hc : X.calm = true) (S₀ : LcScope scope x fv osc) (hix : ix.map (fun i => X.N[i]?) = fv.map some) (hi : BI X (.Name x px) iter wi)
    (ht : ∀ (C : Addr) (s₀ : Shared) (H₀ : Hp) (ex : List Addr), BF (X.comp scope (x :: fv) C s₀ H₀ ex) ifs tt) (he : ∀ (C : Addr) (s₀ : Shared) (H₀ : Hp) (ex : List Addr), BE (X.comp scope (x :: fv) C s₀ H₀ ex) elt te)
    (hosc : X.env.scope = osc := by rfl) (hs : ∀ x, foldedSetIterable iter X.env x = pure x := by intro _; rfl) : BE X (.ListComp elt [⟨.Name x px, iter, ifs, 0⟩] scope pos) (tLC ix wi tt te) :=
  ⟨pe_lc hc S₀ hix hi.h (fun C s₀ H₀ ex => (ht C s₀ H₀ ex).h) (fun C s₀ H₀ ex => (he C s₀ H₀ ex).h) hosc hs⟩
/-! tests -/
theorem bt_cmp {op : CmpOp} {r : R2} (ho : OpR X (compareOp op) r) (ha : BE X a ta) (hb : BE X b tb) (hm : behindInMarks op b = false) : BT X (.Compare a [op] [b] pos) (tTest (tOp r ta tb)) := ⟨pt_cmpR ho ha.h hb.h hm⟩
theorem bt_chain {op op' : CmpOp} {r r' : R2} (ho : OpR X (compareOp op) r) (ho' : OpR X (compareOp op') r') (ha : BE X a ta) (hb : BE X b tb) (hc : BE X c tc) (hm : lastMarks [op, op'] [b, c] = false := by with_unfolding_all rfl) : BT X (.Compare a [op, op'] [b, c] pos) (tTest (tChain r r' ta tb tc)) := ⟨pt_chain ho ho' ha.h hb.h hc.h hm⟩
theorem bt_val (h : BE X e te) (he : ∀ whole, isTrue e X.env whole = (do let v ← whole; standAt e.pos; holding [v] (truthy v))) : BT X e (tB te) := ⟨pt_val h.h he⟩
theorem bt_not (h : BT X a tA) : BT X (.UnaryOp .Not a pos) (tNot tA) := ⟨pt_not h.h⟩
theorem bt_w (h : BW X e tA) : BT X e tA := ⟨h.h.pt⟩
theorem bw_and1 (h : BT X a tA) : BW X (.BoolOp .And [a] pos) tA := ⟨pw_and1 h.h⟩
theorem bw_or1 (h : BT X a tA) : BW X (.BoolOp .Or [a] pos) tA := ⟨pw_or1 h.h⟩
theorem bw_and (ha : BT X a tA) (hb : BW X (.BoolOp .And (b :: es) pos) tB') : BW X (.BoolOp .And (a :: b :: es) pos) (tAnd tA tB') := ⟨pw_and ha.h hb.h⟩
theorem bw_or (ha : BT X a tA) (hb : BW X (.BoolOp .Or (b :: es) pos) tB') : BW X (.BoolOp .Or (a :: b :: es) pos) (tOr tA tB') := ⟨pw_or ha.h hb.h⟩
/-! statements -/
theorem bss_nil : BSs X [] tNext := ⟨pss_nil⟩
theorem bss_cons (h1 : BS X st s) (h2 : BSs X rest u) : BSs X (st :: rest) (tSeq s u) := ⟨pss_cons h1.h h2.h⟩
theorem bss_one (h : BS X st s) : BSs X [st] s := ⟨pss_one h.h⟩
theorem bs_expr (h : BE X e te) (hs : swapsWith e none pos.line X.env = pure false := by rfl) : BS X (.Expr e pos) (tDrop te) := ⟨ps_expr h.h hs⟩
theorem bs_ret (h : BE X e te) : BS X (.Return (some e) pos) (tRet te) := ⟨ps_ret h.h⟩
theorem bs_if (hc : BT X c tA) (ha : BSs X xs s) (hb : BSs X ys u) : BS X (.If c xs ys pos) (tIfS tA s u) := ⟨ps_if hc.h ha.h hb.h⟩
theorem bs_set {i : Nat} {x : Str} {pos' : Pos} (hN : X.N.Nodup) (hi : X.N[i]? = some x) (hx : Loc X.env.scope x) (he : BE X e te) (hs : swapsWith e (some (.Name x pos')) pos.line X.env = pure false := by rfl) (hf : X.fn x = true ∨ X.env.scope.names.lookup x = some .local := by first | exact .inl rfl | exact .inr rfl | assumption) :
    BS X (.Assign [.Name x pos'] e pos) (tAsg te (gName i)) := ⟨ps_set hN hi hx he.h hs hf⟩
theorem bg_name {i : Nat} {x : Str} (hN : X.N.Nodup) (hi : X.N[i]? = some x) (hx : Loc X.env.scope x) (hf : X.fn x = true ∨ X.env.scope.names.lookup x = some .local := by first | exact .inl rfl | exact .inr rfl | assumption) : BG X (.Name x pos) (gName i) := ⟨pg_name hN hi hx hf⟩
theorem bs_for {tg iter : Expr} {wi : TI} {g : TG} (hp : PassesOwn (model X.prog X.w) X.A X.env X.xe) (hc : X.calm = true) (hi : BI X tg iter wi) (hg : BG X tg g) (hb : BSs X xs s) (hs : ∀ x, foldedSetIterable iter X.env x = pure x := by intro _; rfl) : BS X (.For tg iter xs [] pos) (tFor wi g s) := ⟨ps_for hp hc hi.h hg.h hb.h hs⟩
end
instance k0 {A B : Prop} : RdS (if (true == true) = true then A else B) A := ⟨fun h => by simpa using h⟩
instance k1 {A B : Prop} : RdS (if (true != true) = true then A else B) B := ⟨fun h => by simpa using h⟩
instance k2 {A B : Prop} : RdS (if (true == false) = true then A else B) B := ⟨fun h => by simpa using h⟩
instance k3 {A B : Prop} : RdS (if (true != false) = true then A else B) A := ⟨fun h => by simpa using h⟩
instance k4 {A B : Prop} : RdS (if (false == true) = true then A else B) B := ⟨fun h => by simpa using h⟩
instance k5 {A B : Prop} : RdS (if (false != true) = true then A else B) A := ⟨fun h => by simpa using h⟩
instance k6 {A B : Prop} : RdS (if (false == false) = true then A else B) A := ⟨fun h => by simpa using h⟩
instance k7 {A B : Prop} : RdS (if (false != false) = true then A else B) B := ⟨fun h => by simpa using h⟩
theorem rd_pick {K : PySem.W.Frag} {H : Hp} {Q : VK} {a : Addr} {xs : List V} {i : Int} (e : SqL K H a xs) (h0 : 0 ≤ i) (h1 : i < xs.length) (h : ∀ v ∈ xs, Q v H) : rIx K (.ref a) (.int i) H Q := by
  obtain ⟨j, rfl⟩ : ∃ j : Nat, i = j := ⟨i.toNat, by omega⟩
  have hj : j < xs.length := by omega
  exact rd_ixL e (atI_nat (List.getElem?_eq_getElem hj)) (h _ (List.getElem_mem hj))
section
variable {P : Program} {w : World} {K : PySem.W.Frag} {mg : Str → Option Value} {base : Heap}
theorem Fun.okB {x qual : Str} {st : Stmt} {f : Addr} {fd : FuncData} {N ps : List Str} {k : Nat} {sp : Sp} (F : Fun K x qual st f fd) (S : FnScope N ps (defScope st)) (len : ∀ vs H Q E, sp vs H Q E → vs.length = ps.length)
    (hbody : ∀ (cdv : Value) (A : Around) (outer : List Env) (s : Shared) (H : Hp) (vs : List V) (Q : VK) (E : XK), Room k (A.deeper (envOfC qual (defScope st) s.heap.objs.size f cdv)) → sp vs H Q E →
      ∃ t, BSs (cxOf CX0 P w K mg base N qual (defScope st) f cdv A outer s H E).nox (defBody st) t ∧ t { nx := fun _ H' => Q .non H', rt := Q } (start N vs) H) : FnOk P w K mg base CX0 (k + 1) f fd ps sp :=
  F.ok S len fun cdv A outer s H vs Q E hr hs => let ⟨t, h, q⟩ := hbody cdv A outer s H vs Q E hr hs; ⟨t, h.h, q⟩
end
end L2

set_option Elab.async false
set_option linter.all false
set_option maxRecDepth 100000
set_option maxHeartbeats 4000000
namespace L2
open PySem PySem.Spec PyProof.Rows
section
variable {X : Cx} {K : PySem.W.Frag} {σ : St} {H : Hp} {Q : VK} {o e : Expr} {es : List Expr} {to te : TE} {t : TA} {apos cpos pos p2 : Pos}
/-! ### xs.insert(k, y), k within -/
def insL {α : Type} (k : Nat) (y : α) (xs : List α) : List α := xs.take k ++ y :: xs.drop k
def rInsert : V → List V → Hp → VK → Prop := fun x vs H Q => ∃ l xs i y, x = .ref l ∧ vs = [.int i, y] ∧ H l = some (.lst xs) ∧ 0 ≤ i ∧ i ≤ xs.length ∧ xs.length < sizeLine ∧ Q .non (upd H l (.lst (insL i.toNat y xs)))
theorem mt_insert : MtM X "list.insert" rInsert := by
  intro pins s σ H x vs v us Q I rx rv h
  obtain ⟨l, xs, i, y, rfl, rfl, hH, hi, hk, hz, q⟩ := h
  cases (show v = Value.ref l from rx)
  obtain ⟨u, u', rfl, ⟨tk, ru⟩, ru'⟩ := rv.two
  subst ru
  obtain ⟨z, its, n, r, hl, e⟩ := I.lstM hH
  have hs : sizeLine = 16777216 := sizeLine_eq
  have hfit : ¬ (!Builtin.List.listFitsIndex i) = true := by
    rw [fitsIndex_both (by omega) (by omega)]
    exact Bool.false_ne_true
  refine call_meets F.slot_list_insert ⟨_, e, rfl⟩ F.entry_list_insert (F.args_list_insert_3 _ _ _) (AutoSeq1.list_insert_list_int_val_1 l its.toArray n i tk u' hfit (by rw [List.size_toArray]; omega)) ⟨e, ?_⟩
  refine ⟨.non, _, I.lset (its' := its.take i.toNat ++ u' :: its.drop i.toNat) (ys := insL i.toNat y xs) hH e ?_ ((r.take i.toNat).append (.cons ru' (r.drop i.toNat))) ?_, rfl, q⟩
  · show ((its.toArray.extract 0 (if i < 0 then (i + (its.toArray.size : Int)).toNat else min i.toNat its.toArray.size)).push u' ++ its.toArray.extract (if i < 0 then (i + (its.toArray.size : Int)).toNat else min i.toNat its.toArray.size)) = _
    rw [if_neg (by omega), show min i.toNat its.toArray.size = i.toNat by rw [List.size_toArray]; omega]
    apply Array.ext'
    simp
    apply List.take_of_length_le
    rw [List.length_drop]
    omega
  · unfold insL
    rw [List.length_append, List.length_cons, List.length_take, List.length_drop]
    omega
theorem bm_insert (ho : BE X o to) (ha : BA X (e :: es) t) (hbase : attributeBase o "insert" X.env (eval o X.env) = eval o X.env := by rfl)
    (hfew : ((backTo cpos (starEach (e :: es) X.env)).all (fun x => !x.1) && (backToKw cpos (keywordEach [] X.env)).all (fun x => x.1.isSome)
      && decide ((e :: es).length + ([] : List Keyword).length + (if ([] : List Keyword).isEmpty then 0 else 1) < 30)) = true := by rfl)
    (hline : (apos.endLine == cpos.line) = true := by rfl) (h1 : isStar e = false := by rfl) (h2 : noStar es = true := by rfl) :
    BE X (.Call (.Attribute o "insert" apos) (e :: es) [] cpos) (tBM X.K "list" rInsert to t) :=
  ⟨pe_bm F.plainAttrs_list F.slot_list_insert F.type_list_insert mt_insert ho.h ha.h hbase hfew hline (star_cons h1) (star_any h2)⟩
theorem bm_append (ho : BE X o to) (ha : BA X (e :: es) t) (hbase : attributeBase o "append" X.env (eval o X.env) = eval o X.env := by rfl)
    (hfew : ((backTo cpos (starEach (e :: es) X.env)).all (fun x => !x.1) && (backToKw cpos (keywordEach [] X.env)).all (fun x => x.1.isSome)
      && decide ((e :: es).length + ([] : List Keyword).length + (if ([] : List Keyword).isEmpty then 0 else 1) < 30)) = true := by rfl)
    (hline : (apos.endLine == cpos.line) = true := by rfl) (h1 : isStar e = false := by rfl) (h2 : noStar es = true := by rfl) :
    BE X (.Call (.Attribute o "append" apos) (e :: es) [] cpos) (tBM X.K "list" rAppend to t) :=
  ⟨pe_bm F.plainAttrs_list F.slot_list_append F.type_list_append mt_append ho.h ha.h hbase hfew hline (star_cons h1) (star_any h2)⟩
instance j1 {T : String} {r : V → List V → Hp → VK → Prop} : RdS (tBM K T r to t σ H Q) (to σ H fun x H1 => tyV K T x H1 ∧ t σ H1 fun xs H2 => r x xs H2 Q) := ⟨id⟩
theorem rd_bmL {p : Addr} {xs : List V} {P : Prop} (e : H p = some (.lst xs)) (h : P) : tyV K "list" (.ref p) H ∧ P := ⟨.inl ⟨rfl, _, SqL.of e⟩, h⟩
theorem rd_append {l : Addr} {xs : List V} {y : V} (e : H l = some (.lst xs)) (hz : xs.length < sizeLine) (h : Q .non (upd H l (.lst (xs ++ [y])))) : rAppend (.ref l) [y] H Q := ⟨l, xs, y, rfl, rfl, e, hz, h⟩
theorem rd_insert {l : Addr} {xs : List V} {i : Int} {y : V} (e : H l = some (.lst xs)) (hi : 0 ≤ i) (hk : i ≤ xs.length) (hz : xs.length < sizeLine) (h : Q .non (upd H l (.lst (insL i.toNat y xs)))) : rInsert (.ref l) [.int i, y] H Q := ⟨l, xs, i, y, rfl, rfl, e, hi, hk, hz, h⟩
/-! ### xs[::-1] of a list -/
def tRev (K : PySem.W.Frag) (te : TE) : TE := fun σ H Q => te σ H fun x H1 => ∃ a xs, x = .ref a ∧ SqL K H1 a xs ∧ ∀ p H2, H1 p = none → Same H1 H2 → H2 p = some (.lst xs.reverse) → Q (.ref p) H2
instance j2 {te : TE} : RdS (tRev K te σ H Q) (te σ H fun x H1 => ∃ a xs, x = .ref a ∧ SqL K H1 a xs ∧ ∀ p H2, H1 p = none → Same H1 H2 → H2 p = some (.lst xs.reverse) → Q (.ref p) H2) := ⟨id⟩
instance j3 {A B : Prop} {b : Bool} : RdS (if (!(b == b)) = true then A else B) B := ⟨fun h => by simpa using h⟩
instance GetS.pick {ix : List Nat} {σ σ' : St} {i : Nat} {v : V} [p : PickS ix σ σ'] [g : GetS σ' i v] : GetS (pick ix σ) i v := ⟨by rw [p.eq]; exact g.get⟩
end
instance n0 {A B : Prop}  : RdS (if decide ((.non : V) = .non) = true then A else B) A := ⟨fun h => by simpa using h⟩
instance n1 {A B : Prop}  : RdS (if (!decide ((.non : V) = .non)) = true then A else B) B := ⟨fun h => by simpa using h⟩
instance n2 {A B : Prop} {p : Addr} : RdS (if decide (((.ref p) : V) = .non) = true then A else B) B := ⟨fun h => by simpa using h⟩
instance n3 {A B : Prop} {p : Addr} : RdS (if (!decide (((.ref p) : V) = .non)) = true then A else B) A := ⟨fun h => by simpa using h⟩
instance n4 {A B : Prop} {i : Int} : RdS (if decide (((.int i) : V) = .non) = true then A else B) B := ⟨fun h => by simpa using h⟩
instance n5 {A B : Prop} {i : Int} : RdS (if (!decide (((.int i) : V) = .non)) = true then A else B) A := ⟨fun h => by simpa using h⟩
instance n6 {A B : Prop} {z : Str} : RdS (if decide (((.str z) : V) = .non) = true then A else B) B := ⟨fun h => by simpa using h⟩
instance n7 {A B : Prop} {z : Str} : RdS (if (!decide (((.str z) : V) = .non)) = true then A else B) A := ⟨fun h => by simpa using h⟩
instance n8 {A B : Prop} {b : Bool} : RdS (if decide (((.bl b) : V) = .non) = true then A else B) B := ⟨fun h => by simpa using h⟩
instance n9 {A B : Prop} {b : Bool} : RdS (if (!decide (((.bl b) : V) = .non)) = true then A else B) A := ⟨fun h => by simpa using h⟩
section
variable {X : Cx} {K : PySem.W.Frag}
theorem o_addK (h : X.K = K) : OpR X (binaryOp .Add) (rAddP K) := h ▸ o_add
end
/-! ### entries, as plain data -/
abbrev Ent := Str × Int × L2.D
def entD (e : Ent) : L2.D := .tup [.str e.1, .int e.2.1, e.2.2]
def optD : Option Ent → L2.D
  | none => .non
  | some e => entD e
theorem Reps.at {H : Hp} {α : Type} {f : α → L2.D} : ∀ {es : List α} {vs : List V} {j : Nat} {v : V}, Reps H (es.map f) vs → vs[j]? = some v → ∃ e, es[j]? = some e ∧ Rep H (f e) v
  | [], vs, j, v, h, e => by
    rw [List.map_nil] at h
    rw [h.nilE] at e
    simp at e
  | x :: es, vs, j, v, h, e => by
    rw [List.map_cons] at h
    obtain ⟨u, r, rfl, h1, h2⟩ := h.consE
    cases j with
    | zero =>
      simp at e
      subst e
      exact ⟨x, rfl, h1⟩
    | succ j =>
      obtain ⟨y, e1, e2⟩ := Reps.at (es := es) (j := j) h2 (by simpa using e)
      exact ⟨y, by simpa using e1, e2⟩
/-! what a list's change leaves as it is: tuples and what they hold -/
mutual
def noL : L2.D → Bool
  | .lst _ => false
  | .dct => false
  | .tup ds => noLs ds
  | _ => true
def noLs : List L2.D → Bool
  | [] => true
  | d :: ds => noL d && noLs ds
end
def Tups (H H' : Hp) : Prop := ∀ b xs, H b = some (.tup xs) → H' b = some (.tup xs)
mutual
theorem Rep.stay {H H' : Hp} (s : Tups H H') : ∀ {d : L2.D} {v : V}, noL d = true → Rep H d v → Rep H' d v
  | .non, v, _, h => by simp only [Rep] at h ⊢; exact h
  | .bl b, v, _, h => by simp only [Rep] at h ⊢; exact h
  | .int b, v, _, h => by simp only [Rep] at h ⊢; exact h
  | .str b, v, _, h => by simp only [Rep] at h ⊢; exact h
  | .lst ds, v, n, h => by simp only [noL] at n; cases n
  | .dct, v, n, h => by simp only [noL] at n; cases n
  | .tup ds, v, n, h => by
    simp only [noL] at n
    simp only [Rep] at h ⊢
    obtain ⟨a, vs, e, h1, h2⟩ := h
    exact ⟨a, vs, e, s _ _ h1, Reps.stay s n h2⟩
theorem Reps.stay {H H' : Hp} (s : Tups H H') : ∀ {ds : List L2.D} {vs : List V}, noLs ds = true → Reps H ds vs → Reps H' ds vs
  | [], vs, _, h => by simp only [Reps] at h ⊢; exact h
  | d :: ds, vs, n, h => by
    simp only [noLs, Bool.and_eq_true] at n
    simp only [Reps] at h ⊢
    obtain ⟨v, r, e, h1, h2⟩ := h
    exact ⟨v, r, e, Rep.stay s n.1 h1, Reps.stay s n.2 h2⟩
end
theorem tups_upd {H : Hp} {l : Addr} {xs : List V} {o : HO} (h : H l = some (.lst xs)) : Tups H (upd H l o) := fun b ys e => by
  rw [upd_ne (ne_of e h (by intro z; cases z))]
  exact e
theorem same_updL {H H1 : Hp} {l : Addr} {o : HO} (s : Same H H1) (h : H l = none) : Same H (upd H1 l o) := fun b u e => by
  rw [upd_ne (ne_of_none e h)]
  exact s b u e
theorem Reps.take {H : Hp} : ∀ {ds : List L2.D} {vs : List V} (n : Nat), Reps H ds vs → Reps H (ds.take n) (vs.take n)
  | ds, vs, 0, _ => by rw [List.take_zero, List.take_zero]; exact Reps.nil'
  | [], vs, n + 1, h => by rw [h.nilE]; exact Reps.nil'
  | d :: ds, vs, n + 1, h => by
    obtain ⟨v, r, rfl, h1, h2⟩ := h.consE
    exact Reps.cons' h1 (Reps.take n h2)
theorem Reps.drop {H : Hp} : ∀ {ds : List L2.D} {vs : List V} (n : Nat), Reps H ds vs → Reps H (ds.drop n) (vs.drop n)
  | ds, vs, 0, h => h
  | [], vs, n + 1, h => by rw [h.nilE]; exact Reps.nil'
  | d :: ds, vs, n + 1, h => by
    obtain ⟨v, r, rfl, h1, h2⟩ := h.consE
    exact Reps.drop n h2
theorem Reps.append {H : Hp} : ∀ {ds es : List L2.D} {vs us : List V}, Reps H ds vs → Reps H es us → Reps H (ds ++ es) (vs ++ us)
  | [], es, vs, us, h, h' => by rw [h.nilE]; exact h'
  | d :: ds, es, vs, us, h, h' => by
    obtain ⟨v, r, rfl, h1, h2⟩ := h.consE
    exact Reps.cons' h1 (Reps.append h2 h')
theorem Reps.ins {H : Hp} {ds : List L2.D} {vs : List V} {d : L2.D} {v : V} (k : Nat) (h : Reps H ds vs) (h1 : Rep H d v) : Reps H (insL k d ds) (insL k v vs) := (h.take k).append (Reps.cons' h1 (h.drop k))
theorem Reps.reverse {H : Hp} : ∀ {ds : List L2.D} {vs : List V}, Reps H ds vs → Reps H ds.reverse vs.reverse
  | [], vs, h => by rw [h.nilE]; exact Reps.nil'
  | d :: ds, vs, h => by
    obtain ⟨v, r, rfl, h1, h2⟩ := h.consE
    rw [List.reverse_cons, List.reverse_cons]
    exact (Reps.reverse h2).append (Reps.cons' h1 Reps.nil')
theorem insL_perm {α : Type} (k : Nat) (y : α) (xs : List α) : (insL k y xs).Perm (y :: xs) := by
  unfold insL
  refine List.perm_middle.trans ?_
  rw [List.take_append_drop]
theorem insL_len {α : Type} (k : Nat) (y : α) (xs : List α) : (insL k y xs).length = xs.length + 1 := (insL_perm k y xs).length_eq
/-! the newest -/
def stepN (key : Str) (st : Int) (f : Option Ent) (e : Ent) : Option Ent := if e.1 = key ∧ e.2.1 ≤ st then (match f with | none => some e | some g => if g.2.1 < e.2.1 then some e else some g) else f
def newestM (es : List Ent) (key : Str) (st : Int) : Option Ent := es.foldl (stepN key st) none
def aheadB (e f : Ent) : Bool := if e.1 = f.1 then decide (f.2.1 < e.2.1) else decide (e.1.cps.toList < f.1.cps.toList)
/-- what the newest is: a candidate, and none has a greater stamp -/
def IsN (es : List Ent) (key : Str) (st : Int) : Option Ent → Prop
  | none => ∀ e ∈ es, ¬ (e.1 = key ∧ e.2.1 ≤ st)
  | some g => g ∈ es ∧ (g.1 = key ∧ g.2.1 ≤ st) ∧ ∀ e ∈ es, e.1 = key ∧ e.2.1 ≤ st → e.2.1 ≤ g.2.1
end L2

set_option Elab.async false
set_option linter.all false
set_option maxRecDepth 100000
set_option maxHeartbeats 4000000
namespace L2
open PySem PySem.Spec PyProof.Rows
section
variable {X : Cx} {K : PySem.W.Frag} {σ : St} {H : Hp} {Q : VK} {o e : Expr} {es : List Expr} {to te : TE} {t : TA} {apos cpos pos p2 : Pos}
/-! ### shifts of great numbers -/
def CShl (i j : Int) : Prop := 0 ≤ j ∧ (Builtin.Int.intBits i : Int) + j ≤ 2 ^ 27
/-! ### texts -/
def rIndex : V → List V → Hp → VK → Prop := fun x vs H Q => ∃ z y i r, x = .str z ∧ vs = [.str y] ∧ Builtin.Str.occurrences z y 0 z.length 1 = i :: r ∧ Q (.int (i : Nat)) H
def rJoin (K : PySem.W.Frag) : V → List V → Hp → VK → Prop := fun x vs H Q => ∃ z p ys, x = .str z ∧ vs = [.ref p] ∧ SqL K H p (ys.map V.str) ∧ (ys.map (·.length)).sum + ys.length * z.length ≤ 16777216 ∧ Q (.str (Txt.join z ys)) H
theorem strsAre_of : ∀ {ys : List Str} {us : List Value}, Vals (ys.map V.str) us → StrsAre us ys
  | [], _, r => by rw [List.map_nil] at r; cases r; exact .nil
  | y :: ys, _, r => by
    rw [List.map_cons] at r
    cases r with
    | cons r1 r2 =>
      obtain ⟨t, rfl⟩ := r1
      exact .cons y t (strsAre_of r2)
theorem mt_join : MtM X "str.join" (rJoin X.K) := by
  intro pins s σ H x vs v us Q I rx rv h
  obtain ⟨z, p, ys, rfl, rfl, hp, hz, q⟩ := h
  obtain ⟨t, rfl⟩ := rx
  obtain ⟨u, rfl, ru⟩ := rv.one
  cases (show u = Value.ref p from ru)
  obtain ⟨its, r, pl, _⟩ := I.list hp
  exact join_list pl.isList (by simpa using strsAre_of r) hz fun t' k => ⟨.str (Txt.join z ys), H, I.tok _, ⟨_, rfl⟩, q⟩
def rPart : V → List V → Hp → VK → Prop := fun x vs H Q => ∃ z y, x = .str z ∧ vs = [.str y] ∧ (y.length == 0) = false ∧ z.length ≤ sizeLine ∧ ∀ p H1, Same H H1 → H1 p = some (.tup [.str (Txt.partition z y).1, .str (Txt.partition z y).2.1, .str (Txt.partition z y).2.2]) → Q (.ref p) H1
/-! int(text) -/
def rIntT : List V → Hp → VK → Prop := fun xs H Q => ∃ z n, xs = [.str z] ∧ PySem.intText? z = some n ∧ z.length ≤ 640 ∧ Q (.int n) H
theorem c_int : CallR X (.type "int") rIntT := by
  intro pins s σ H xs us Q I r h
  obtain ⟨z, n, rfl, hn, hz, q⟩ := h
  obtain ⟨u, rfl, t, rfl⟩ := vals1 r
  exact PySem.W.KIN.call_text hn hz ⟨.int n, H, I.tok _, ⟨_, rfl⟩, q⟩
theorem rd_intT {z : Str} {n : Int} (hn : PySem.intText? z = some n) (hz : z.length ≤ 640) (h : Q (.int n) H) : rIntT [.str z] H Q := ⟨z, n, rfl, hn, hz, h⟩
/-! methods in boxes -/
theorem bm_join (ho : BE X o to) (ha : BA X (e :: es) t) (hbase : attributeBase o "join" X.env (eval o X.env) = eval o X.env := by rfl)
    (hfew : ((backTo cpos (starEach (e :: es) X.env)).all (fun x => !x.1) && (backToKw cpos (keywordEach [] X.env)).all (fun x => x.1.isSome)
      && decide ((e :: es).length + ([] : List Keyword).length + (if ([] : List Keyword).isEmpty then 0 else 1) < 30)) = true := by rfl)
    (hline : (apos.endLine == cpos.line) = true := by rfl) (h1 : isStar e = false := by rfl) (h2 : noStar es = true := by rfl) :
    BE X (.Call (.Attribute o "join" apos) (e :: es) [] cpos) (tBM X.K "str" (rJoin X.K) to t) :=
  ⟨pe_bm F.plainAttrs_str F.slot_str_join F.type_str_join mt_join ho.h ha.h hbase hfew hline (star_cons h1) (star_any h2)⟩
/-! ### f-strings -/
abbrev TJ := St → Hp → Str → (Str → Hp → Prop) → Prop
structure BJ (X : Cx) (es : List Expr) (t : TJ) : Prop where
  h : ∀ (pins : List (Addr × Obj)) (s : Shared) (σ : St) (H : Hp) (out : Str) (Q : Str → Hp → Prop), Inv X pins σ H s → t σ H out Q → wpAny (model X.prog X.w) X.A (joinParts out (evalEach es X.env)) (fun u s' => ∃ z H', Inv X pins σ H' s' ∧ RelV (.str z) u ∧ Q z H') X.xe s
def jNil : TJ := fun _ H out Q => out.length ≤ sizeLine ∧ Q out H
def jCons (te : TE) (t : TJ) : TJ := fun σ H out Q => te σ H fun x H1 => ∃ y, x = .str y ∧ (out ++ y).length ≤ sizeLine ∧ t σ H1 (out ++ y) Q
def tFs (t : TJ) : TE := fun σ H Q => t σ H Str.empty fun z H1 => Q (.str z) H1
def tFmt (te : TE) : TE := fun σ H Q => te σ H fun x H1 => (∃ i, x = .int i ∧ i.natAbs.log2 < 1920 ∧ Q (.str (toString i)) H1) ∨ ∃ z, x = .str z ∧ z.length ≤ sizeLine ∧ Q (.str z) H1
/-! ### for x in reversed(xs) -/
def Itv (K : PySem.W.Frag) (a : Addr) (n : Nat) : It :=
  ⟨fun i H => i < n ∧ ∃ xs, SqL K H a xs ∧ xs.length = n, fun i H x H' => H' = H ∧ ∀ xs, SqL K H a xs → xs[n - 1 - i]? = some x, fun i _ => i = n⟩
def iRev (K : PySem.W.Frag) (te : TE) : TI := fun σ H R => te σ H fun x H1 => ∃ a xs, [x] = [V.ref a] ∧ SqL K H1 a xs ∧ R (Itv K a xs.length) H1
instance v1 {te : TE} {F : It → Hp → Prop} : RdS (iRev K te σ H F) (te σ H fun x H1 => ∃ a xs, [x] = [V.ref a] ∧ SqL K H1 a xs ∧ F (Itv K a xs.length) H1) := ⟨id⟩
end
end L2

set_option Elab.async false
set_option linter.all false
set_option maxRecDepth 100000
set_option maxHeartbeats 4000000
namespace L2
open PySem PySem.Spec PyProof.Rows
/-! ### t < u of tuples of texts and ints -/
abbrev At := Sum Str Int
def atV : At → V
  | .inl x => .str x
  | .inr n => .int n
inductive AtsAre : List Value → List At → Prop
  | nil : AtsAre [] []
  | str {us r} (x : Str) (t : Tok) : AtsAre us r → AtsAre (.str x t :: us) (.inl x :: r)
  | int {us r} (n : Int) (t : Tok) : AtsAre us r → AtsAre (.int n t :: us) (.inr n :: r)
theorem AtsAre.length {us : List Value} {as : List At} (h : AtsAre us as) : us.length = as.length := by
  induction h with
  | nil => rfl
  | str _ _ _ ih => simp only [List.length_cons, ih]
  | int _ _ _ ih => simp only [List.length_cons, ih]
/-- of like kinds, place by place -/
def likeA : List At → List At → Prop
  | .inl _ :: xs, .inl _ :: ys => likeA xs ys
  | .inr _ :: xs, .inr _ :: ys => likeA xs ys
  | .inl _ :: _, .inr _ :: _ => False
  | .inr _ :: _, .inl _ :: _ => False
  | _, _ => True
def lexA : List At → List At → Bool
  | [], [] => false
  | [], _ :: _ => true
  | _ :: _, [] => false
  | .inl x :: xs, .inl y :: ys => if x = y then lexA xs ys else decide (x.cps.toList < y.cps.toList)
  | .inr x :: xs, .inr y :: ys => if x = y then lexA xs ys else decide (x < y)
  | _ :: _, _ :: _ => false
section
open PySem.SeqAt
open PySem.AutoSeq1 (wpAny_loadPart')
open PySem.MeetsSeq PySem.MeetsSeq2 PySem.MeetsSeq3
end
section
variable {X : Cx} {K : PySem.W.Frag} {H : Hp} {Q : VK}
def rLtA (K : PySem.W.Frag) : R2 := fun x y H Q => ∃ a b as bs, x = .ref a ∧ y = .ref b ∧ SqT K H a (as.map atV) ∧ SqT K H b (bs.map atV) ∧ likeA as bs ∧ Q (.bl (lexA as bs)) H
end
end L2

set_option Elab.async false
set_option linter.all false
set_option maxRecDepth 100000
set_option maxHeartbeats 4000000
namespace L2
open PySem PySem.Spec PyProof.Rows
/-! ### fours of bits, the lowest first -/
def val : List Nat → Int
  | [] => 0
  | d :: ds => d + 16 * val ds
def okF (ds : List Nat) : Prop := ∀ d ∈ ds, d < 16
theorem okF.take {ds : List Nat} (h : okF ds) (n : Nat) : okF (ds.take n) := fun d hd => h d (List.mem_of_mem_take hd)
theorem okF.drop {ds : List Nat} (h : okF ds) (n : Nat) : okF (ds.drop n) := fun d hd => h d (List.mem_of_mem_drop hd)
def sg (ds : List Nat) : Str := ⟨(ds.map (97 + ·)).toArray⟩
theorem str_ext {x y : Str} (h : x.cps.toList = y.cps.toList) : x = y := by
  cases x; cases y
  congr 1
  exact Array.ext' h
def SIGN : Str := "abcdefghijklmnop"
/-! the sizes' figures -/
def FIG : Str := "0123456789"
end L2

set_option Elab.async false
set_option linter.all false
set_option maxRecDepth 100000
set_option maxHeartbeats 4000000
namespace L2
open PySem PySem.Spec PyProof.Rows
end L2

set_option Elab.async false
set_option linter.all false
set_option maxRecDepth 100000
set_option maxHeartbeats 4000000
namespace L2
open PySem PySem.Spec PyProof.Rows
/-! ### figures, and the texts of sieves as they are read -/
def isFig (c : Nat) : Bool := decide (48 ≤ c ∧ c ≤ 57)
theorem fig_in (c : Nat) : (!(Builtin.Str.occurrences FIG ⟨#[c]⟩ 0 FIG.length 1).isEmpty) = isFig c := by
  rw [empty_one, Bool.not_not]
  have : FIG.cps.toList = [48, 49, 50, 51, 52, 53, 54, 55, 56, 57] := by decide +kernel
  rw [this]
  unfold isFig
  refine decide_eq_decide.mpr ?_
  simp only [List.mem_cons, List.not_mem_nil, or_false]
  omega
def isSg (c : Nat) : Bool := decide (97 ≤ c ∧ c ≤ 112)
def figB (z : Str) : Bool := decide (z ≠ Str.ofString "") && z.cps.toList.all isFig
theorem str_empty {z : Str} : z = Str.ofString "" ↔ z.cps.toList = [] := by
  constructor
  · rintro rfl; rfl
  · intro h; exact str_ext (by rw [h]; rfl)
theorem figB_iff {z : Str} : figB z = true ↔ z.cps.toList ≠ [] ∧ NumText.AllDigits z.cps.toList := by
  unfold figB NumText.AllDigits isFig
  rw [Bool.and_eq_true, List.all_eq_true, decide_eq_true_iff, Ne, str_empty]
  simp only [decide_eq_true_eq, Ne]
def numM (z : Str) : Nat := NumText.digitsVal z.cps.toList
theorem fig_reads {z : Str} (h : figB z = true) (hl : z.length ≤ 4300) : PySem.intText? z = some (numM z : Int) := by
  obtain ⟨h1, h2⟩ := figB_iff.mp h
  exact intText_digits h2 h1 hl
theorem digits_lt : ∀ (cs : List Nat) (a : Nat), NumText.AllDigits cs → cs.foldl (fun acc c => acc * 10 + (c - 48)) a < (a + 1) * 10 ^ cs.length
  | [], a, _ => by simp
  | c :: cs, a, h => by
    rw [List.foldl_cons, List.length_cons, Nat.pow_succ]
    have hc := h c List.mem_cons_self
    have ih := digits_lt cs (a * 10 + (c - 48)) fun x hx => h x (List.mem_cons_of_mem _ hx)
    have : (a * 10 + (c - 48) + 1) * 10 ^ cs.length ≤ (a + 1) * 10 * 10 ^ cs.length := Nat.mul_le_mul_right _ (by omega)
    calc _ < _ := ih
      _ ≤ _ := this
      _ = _ := by rw [Nat.mul_assoc, Nat.mul_comm 10]
/-- what read_figures tells -/
def rfM (least most : Int) (n : Nat) (z : Str) : Option Int :=
  if z.length ≤ n ∧ figB z = true ∧ ¬ (atI z.cps.toList 0 = some 48 ∧ z ≠ Str.ofString "0") ∧ least ≤ numM z ∧ (numM z : Int) ≤ most then some (numM z : Int) else none
def szM (z : Str) : Option Int := if z.length ≤ 6 ∧ figB z = true ∧ atI z.cps.toList 0 ≠ some 48 ∧ numM z % 8 = 0 then some (numM z : Int) else none
/-! the text parted -/
def pH (z : Str) : Str := (Txt.partition z (Str.ofString ":")).1
def pC (z : Str) : Str := (Txt.partition z (Str.ofString ":")).2.1
def pB (z : Str) : Str := (Txt.partition z (Str.ofString ":")).2.2
def dsOf (z : Str) : List Nat := z.cps.toList.map (· - 97)
def dueM (z : Str) : Option (Int × Int) :=
  match szM (pH z) with
  | none => none
  | some n => if ((pB z).length : Int) = n / 4 ∧ (pB z).cps.toList.all isSg = true then some (n, val (dsOf (pB z))) else none
end L2

set_option Elab.async false
set_option linter.all false
set_option maxRecDepth 100000
set_option maxHeartbeats 4000000
namespace L2
open PySem PySem.Spec PyProof.Rows
open PySem.SeqAt
open PySem.AutoSeq1 (wpAny_loadPart')
open PySem.MeetsSeq PySem.MeetsSeq2 PySem.MeetsSeq3
end L2

set_option Elab.async false
set_option linter.all false
set_option maxRecDepth 100000
set_option maxHeartbeats 4000000
namespace L2
open PySem PySem.Spec PyProof.Rows
section
variable {prog : Program} {w : World} {A : Around} {E : Value → Shared → Prop} {s : Shared} {it : Addr} {z : Str} {t : Tok}
/-- a walk from the end of a text -/
def IsRevS (h : Heap) (it : Addr) (z : Str) (t : Tok) (i : Int) : Prop := h.get? it = some { cls := .type "reversed", data := .fields #[.str z t, rawInt i] }
end
end L2

set_option Elab.async false
set_option linter.all false
set_option maxRecDepth 100000
set_option maxHeartbeats 4000000
namespace L2
open PySem PySem.Spec PyProof.Rows
section
variable {X : Cx} {K : PySem.W.Frag} {σ : St} {H : Hp} {Q : VK} {e : Expr} {te : TE} {pos : Pos}
def Itw (z : Str) : It := ⟨fun i _ => i < z.length, fun i H x H' => H' = H ∧ ∃ c, z.cps.toList[z.length - 1 - i]? = some c ∧ x = .str ⟨#[c]⟩, fun i _ => i = z.length⟩
def iRevS (te : TE) : TI := fun σ H R => te σ H fun x H1 => ∃ z, [x] = [V.str z] ∧ z.length ≤ sizeLine ∧ R (Itw z) H1
instance w1 {te : TE} {F : It → Hp → Prop} : RdS (iRevS te σ H F) (te σ H fun x H1 => ∃ z, [x] = [V.str z] ∧ z.length ≤ sizeLine ∧ F (Itw z) H1) := ⟨id⟩
end
end L2

set_option Elab.async false
set_option linter.all false
set_option maxRecDepth 100000
set_option maxHeartbeats 4000000
namespace L2
open PySem PySem.Spec PyProof.Rows
/-! ### text.replace(a, b), a and b written: their tokens are to be told from 0, so a written text must stand ahead of it -/
structure BP (X : Cx) (e : Expr) (t : TE) : Prop where
  h : ∀ (pins : List (Addr × Obj)) (s : Shared) (σ : St) (H : Hp) (Q : VK), Inv X pins σ H s → 0 < s.toks → t σ H Q → wpAny (model X.prog X.w) X.A (eval e X.env) (fun u s' => 0 < s'.toks ∧ EP X pins σ Q u s') X.xe s
section
variable {X : Cx} {K : PySem.W.Frag} {σ : St} {H : Hp} {Q : VK} {o e : Expr} {es : List Expr} {to te te2 te3 : TE} {t : TA} {apos cpos pos p2 : Pos}
def rRepl : V → List V → Hp → VK → Prop := fun x vs H Q => ∃ a y z, x = .str a ∧ vs = [.str y, .str z] ∧ (y == z) = false ∧ a.length + (a.length + 1) * z.length ≤ 16777216 ∧ (Txt.replace a y z).length ≤ sizeLine ∧ Q (.str (Txt.replace a y z)) H
/-! ### a comprehension over a text, with a test -/
theorem lcSf {z : Str} {ix : List Nat} {tt : TT} {te : TE} (f : Nat → V) (p : Nat → Bool) (hz : z.length ≤ sizeLine) (hT : ∀ c ∈ z.cps.toList, ∀ R : Bool → Hp → Prop, R (p c) H → tt (some (.str ⟨#[c]⟩) :: pick ix σ) H R)
    (hE : ∀ c ∈ z.cps.toList, ∀ R : VK, R (f c) H → te (some (.str ⟨#[c]⟩) :: pick ix σ) H R)
    (hQ : ∀ p' H1, H p' = none → Same H H1 → H1 p' = some (.lst ((z.cps.toList.filter p).map f)) → Q (.ref p') H1) : LcW (Its z) ix σ tt te Q H :=
  lc_str f p hz hT (fun c hc _ R h => hE c hc R h) (fun q hp => hQ q _ hp (same_new hp) upd_same)
end
end L2

set_option Elab.async false
set_option linter.all false
set_option maxRecDepth 100000
set_option maxHeartbeats 4000000
namespace L2
open PySem PySem.Spec PyProof.Rows
section
variable {K : PySem.W.Frag} {σ : St} {H : Hp} {Q : VK} {ix : List Nat} {te : TE}
/-! ### comprehensions whose items are told by an invariant: W by the turn, the items so far, the heap -/
theorem lcWl {a : Addr} {xs : List V} (W : Nat → List V → Hp → Prop) (hz : xs.length ≤ sizeLine) (h0 : W 0 [] H) (hl : ∀ i ys H', W i ys H' → SqL K H' a xs ∧ ys.length = i)
    (hE : ∀ i v ys H', xs[i]? = some v → W i ys H' → te (some v :: pick ix σ) H' fun y H5 => W (i + 1) (ys ++ [y]) H5)
    (hQ : ∀ ys p H' H1, W xs.length ys H' → H' p = none → Same H' H1 → H1 p = some (.lst ys) → Q (.ref p) H1) : LcW (Itl K a) ix σ tYes te Q H := by
  refine ⟨fun i m ys H2 => m = xs.length - i ∧ i ≤ xs.length ∧ W i ys H2, ⟨xs.length, by simp, Nat.zero_le _, h0⟩, ?_⟩
  rintro i m ys H2 ⟨rfl, hi, w⟩
  obtain ⟨q, e⟩ := hl i ys H2 w
  by_cases hlt : i < xs.length
  · refine .inr ⟨⟨xs, _, q, List.getElem?_eq_getElem hlt⟩, by omega, fun x H3 y => ?_⟩
    obtain ⟨rfl, y⟩ := y
    show te _ _ _
    rw [show (fun y H5 => ∃ m', m' < xs.length - i ∧ m' = xs.length - (i + 1) ∧ i + 1 ≤ xs.length ∧ W (i + 1) (ys ++ [y]) H5) = fun y H5 => W (i + 1) (ys ++ [y]) H5 from ?_]
    · exact hE i x ys _ (y xs q) w
    · funext y H5
      apply propext
      exact ⟨fun ⟨m', _, _, _, h⟩ => h, fun h => ⟨xs.length - (i + 1), by omega, rfl, hlt, h⟩⟩
  · have : i = xs.length := by omega
    subst this
    exact .inl ⟨⟨xs, q, Nat.le_refl _⟩, fun D hD => hQ ys D H2 _ w hD (same_new hD) upd_same⟩
/-! ### texts put together -/
end
end L2
namespace L2
open PySem PySem.Spec PyProof.Rows
section
variable {X : Cx} {K : PySem.W.Frag} {σ : St} {H : Hp} {Q : VK}
def rTuple (K : PySem.W.Frag) : List V → Hp → VK → Prop := fun xs H Q => ∃ p ys, xs = [.ref p] ∧ ((SqL K H p ys ∧ ∀ l, H l = none → Q (.ref l) (upd H l (.tup ys))) ∨ (SqT K H p ys ∧ Q (.ref p) H))
theorem c_tuple : CallR X (.type "tuple") (rTuple X.K) := call_tuple_of
theorem rd_tupleL {p : Addr} {ys : List V} (e : SqL K H p ys) (h : ∀ l H1, H l = none → Same H H1 → H1 l = some (.tup ys) → Q (.ref l) H1) : rTuple K [.ref p] H Q := ⟨p, ys, rfl, .inl ⟨e, fun l hl => h l _ hl (same_new hl) upd_same⟩⟩
/-! cuts of lists -/
theorem sIx_nat (len : Nat) (d : Nat) {n : Nat} (h : n ≤ len) : HT.sIx len d (some (n : Int)) = n := by
  unfold HT.sIx
  simp only
  rw [if_neg (by omega)]
  omega
theorem cutV_to (xs : List V) {n : Nat} (h : n ≤ xs.length) : cutV xs none (some (n : Int)) = xs.take n := by
  unfold cutV
  rw [sIx_nat _ _ h, show HT.sIx xs.length 0 none = 0 from rfl, List.drop_zero, Nat.sub_zero]
theorem cutV_from (xs : List V) {n : Nat} (h : n ≤ xs.length) : cutV xs (some (n : Int)) none = xs.drop n := by
  unfold cutV
  rw [sIx_nat _ _ h, show HT.sIx xs.length xs.length none = xs.length from rfl]
  exact List.take_of_length_le (by rw [List.length_drop]; omega)
theorem Reps.rep {H : Hp} {ds : List L2.D} {vs : List V} (r : Reps H ds vs) : ∀ k : Nat, Reps H (List.replicate k ds).flatten (List.replicate k vs).flatten
  | 0 => Reps.nil'
  | k + 1 => by
    rw [List.replicate_succ, List.flatten_cons, List.replicate_succ, List.flatten_cons]
    exact r.append (Reps.rep r k)
end
end L2

set_option Elab.async false
set_option linter.all false
set_option maxRecDepth 100000
set_option maxHeartbeats 4000000
namespace L2
open PySem PySem.Spec PyProof.Rows
section
variable {X : Cx} {scope : Scope} {x : Str} {fv : List Str} {ix : List Nat}
theorem ps_setlc {iy : Nat} {y : Str} {py spos : Pos} {elt iter : Expr} {ifs : List Expr} {px pos : Pos} {wi : TI} {tt : TT} {te : TE} {osc : Scope} (hc : X.calm = true) (S₀ : LcScope scope x fv osc) (hix : ix.map (fun i => X.N[i]?) = fv.map some) (hi : PI X (.Name x px) iter wi)
    (ht : ∀ (C : Addr) (s₀ : Shared) (H₀ : Hp) (ex : List Addr), PIfs (X.comp scope (x :: fv) C s₀ H₀ ex) ifs tt)
    (he : ∀ (C : Addr) (s₀ : Shared) (H₀ : Hp) (ex : List Addr), PE (X.comp scope (x :: fv) C s₀ H₀ ex) elt te)
    (hN : X.N.Nodup) (hyi : X.N[iy]? = some y) (hyx : Loc X.env.scope y) (hsw : swapsWith (.ListComp elt [⟨.Name x px, iter, ifs, 0⟩] scope pos) (some (.Name y py)) spos.line X.env = pure true) (hf : X.fn y = true ∨ X.env.scope.names.lookup y = some .local := by first | exact .inl rfl | exact .inr rfl | assumption)
    (hosc : X.env.scope = osc := by rfl) (hs : ∀ x, foldedSetIterable iter X.env x = pure x := by intro _; rfl) : PS X (.Assign [.Name y py] (.ListComp elt [⟨.Name x px, iter, ifs, 0⟩] scope pos) spos) (tAsg (tLC ix wi tt te) (gName iy)) := by
  have S : LcScope scope x fv X.env.scope := hosc ▸ S₀
  intro pins s σ H D0 I h
  rw [exec_Assign_Name_used y py _ spos hsw]
  refine wpAny_bind (wpAny_standAt (wpAny_bind ?_))
  unfold evalThenUse
  refine wpAny_bind ?_
  refine wpAny_comprehension_free (use := some (assign (.Name y py) X.env)) (cl := closOf scope X.env) rfl hs (closureFor_of (S.cells I.ok)) S.kind S.names ?_
  refine thn (hi pins s σ H _ I h) fun v s1 h1 => thn h1 fun itv s2 h2 => ?_
  obtain ⟨it, fp, tn, J, H2, e, I2, T, st2, f2, W, ⟨m0, w0⟩, turn⟩ := h2
  subst e
  have fl : ∀ b ∈ fp, b < s2.heap.objs.size := fun b hb => by obtain ⟨o, e, _⟩ := T.obj _ _ st2 b hb; exact Heap.lt_size e
  refine wpAny_newObj_type (wpAny_newFunctionEnv S.nocell (by intro y hy; simp at hy) (fun h₁ hns₁ hsb₁ => ?_) S.kind)
  dsimp only at hns₁ hsb₁ ⊢
  generalize hH2 : s2.heap.push { cls := .type "list", dict := none, data := .seq ([] : List Value).toArray } = hp2 at hns₁ hsb₁ ⊢
  have hCe : hp2.objs.size = s2.heap.objs.size + 1 := by rw [← hH2, Heap.size_push]
  generalize hCC : hp2.objs.size = C at hns₁ hsb₁ ⊢
  generalize hDD : s2.heap.objs.size = D at *
  have hDC : D ≠ C := by omega
  have hD : s2.heap.objs.size ≤ D := by omega
  have hC : s2.heap.objs.size ≤ C := by omega
  have nbC : ∀ b : Nat, b < s2.heap.objs.size → b ≠ C := fun b hb => by omega
  have nbD : ∀ b : Nat, b < s2.heap.objs.size → b ≠ D := fun b hb => by omega
  have old : ∀ b o, s2.heap.get? b = some o → h₁.get? b = some o := fun b o e => hsb₁.extBut b o (nbC b (Heap.lt_size e)) (Heap.get?_push_of_some _ (hH2 ▸ Heap.get?_push_of_some _ e))
  have hacc : h₁.get? D = some (lobj [] 0) := hsb₁.extBut _ _ hDC (Heap.get?_push_of_some _ (hH2 ▸ hDD ▸ Heap.get?_push_size _ rfl))
  have st3 : tn 0 h₁ := T.keep _ _ _ st2 fun b _ o e => old b o e
  have I3 : Inv (X.comp scope (x :: fv) C s2 H2 fp) [(D, lobj [] 0)] (none :: pick ix σ) H2 { s2 with heap := h₁, toks := s2.toks + ([] : List (Str × Value)).length } := comp_start S hix I2 hD hDC hC f2 (fun b hb => hDD.symm ▸ fl b hb) hns₁ old hacc
  have fpD : ∀ b ∈ fp, b ≠ D := fun b hb => nbD b (hDD.symm ▸ fl b hb)
  have hcl := S.cells I2.ok
  have stat : ∀ {H' : Hp} {its : List Value} {n : Nat}, (∀ b ∈ fp, H' b = none) → ∀ b ∈ fp, FpOk (X.comp scope (x :: fv) C s2 H2 fp) [(D, lobj its n)] H' b := fun {H' its n} hn b hb => by
    obtain ⟨_, g1, g2, g3, g4, g5⟩ := f2 b hb
    refine ⟨hn b hb, (nbC b (hDD.symm ▸ fl b hb)), fun z => ?_, .inl hb, fun y c h1 => g4 y c (clos_get hcl h1), fun p hp => ?_⟩
    · rcases List.mem_cons.mp (I2.stkSub b z) with z | z
      · exact g1 z
      · exact g2 z
    · have hp' : p = (D, lobj its n) := by simpa [Cx.comp] using hp
      rw [hp']
      exact (fpD b hb).symm
  have loop : ∀ s3 : Shared, s3 = { s2 with heap := h₁, toks := s2.toks + ([] : List (Str × Value)).length } →
      codeAny (model X.prog X.w) X.A (.compLoop (.ListComp elt [⟨.Name x px, iter, ifs, 0⟩] scope pos) 0 (.ref it) (.ref D) (compEnvC scope (closOf scope X.env) C X.env))
        (compPost (model X.prog X.w) X.A X.xe (some (assign (.Name y py) X.env)) (fun _ s6 => wpAny (model X.prog X.w) X.A (pure ()) (fun _ s7 => wpAny (model X.prog X.w) X.A (pure Flow.next) (SP X pins D0) X.xe s7) X.xe s6) (.ref D) C) s3 := by
    rintro s3 rfl
    refine codeAny_compLoop_own (fun n s' => ∃ i ys its k H' o', Inv (X.comp scope (x :: fv) C s2 H2 fp) [(D, lobj its k)] (o' :: pick ix σ) H' s' ∧ tn i s'.heap ∧ (∀ b ∈ fp, H' b = none) ∧ Vals ys its ∧ ys.length ≤ sizeLine ∧ W i n ys H') ?_ m0
      ⟨0, [], [], 0, H2, none, I3, st3, fun b hb => (f2 b hb).1, .nil, Nat.zero_le _, w0⟩
    rintro n s4 ⟨i, ys, its, k, H4, o4, I4, st4, fr4, rv4, hz4, w4⟩
    rcases turn i n ys H4 w4 with ⟨stop, q⟩ | ⟨go, hlt, step⟩
    · refine thn (T.done (X.comp scope (x :: fv) C s2 H2 fp) rfl rfl rfl hc i _ s4 _ H4 _ I4 (stat fr4) st4 stop) fun r s5 ⟨hr, I5⟩ => ?_
      subst hr
      obtain ⟨m5, hn5, _⟩ := id I5.loc
      obtain ⟨I6, nD⟩ := comp_end I2 hD hC f2 I5 (h' := s5.heap) ⟨rfl, fun _ _ => rfl⟩ rv4 hz4
      have fC : FpOk X pins (upd H4 D (.lst ys)) C := I2.fpOk hC (by rw [upd_ne (Ne.symm hDC)]; exact I5.free)
      refine wpAny_assign_Name (store_ok2 I6 hN hyi hyx (v := .ref D) rfl (fun s7 I7 ⟨aa, sb7, ha⟩ => ?_) hf)
      have hCa : C ≠ aa := by
        rcases ha with rfl | ha
        · exact fC.2.1
        · exact (fC.2.2.2.2.1 _ _ ha).symm
      obtain ⟨on, es, ep, ho, rn⟩ := hn5
      refine ⟨m5, ⟨on, es, ep, (sb7.2 C hCa).trans ho, rn⟩, fun h8 hs8 => ?_⟩
      have I8 : Inv X pins (σ.set iy (some (.ref D))) (upd H4 D (.lst ys)) { s7 with heap := h8 } := I7.turned (t' := s7.toks) (it := C) (fun b o hb e => (hs8.2 b hb).trans e) fC.1 fC.2.1 fC.2.2.2.1 fC.2.2.2.2.1 fC.2.2.2.2.2
      exact wpAny_pure (wpAny_pure ⟨_, _, I8, q D nD⟩)
    · refine thn (T.item (X.comp scope (x :: fv) C s2 H2 fp) rfl rfl rfl hc i _ s4 _ H4 _ I4 (stat fr4) st4 go) fun r s5 ⟨u, hr, h5⟩ => ?_
      subst hr
      refine thn h5 fun _ s6 ⟨xv, H6, I6, r6, y6, st6, fr6⟩ => ?_
      have I6' := I6.pinned (stat fr6) (T.obj _ _ st6)
      refine wpAny_assign_Name (store_ok (i := 0) I6' S.nd rfl (.inl (lookup_relabel_local S.tgt)) r6 (fun s7 I7 => ?_) (.inr (lookup_relabel_local S.tgt)))
      refine thn (ht C s2 H2 fp _ s7 _ H6 _ I7 (step xv H6 y6)) fun b s8 ⟨H8, I8, q8⟩ => ?_
      have keepT : ∀ {H9 : Hp} {σ9 : St} {s9 : Shared} (I9 : Inv (X.comp scope (x :: fv) C s2 H2 fp) ([(D, lobj its k)] ++ pinsAt fp s6.heap) σ9 H9 s9), (∀ b ∈ fp, ∀ o, s6.heap.get? b = some o → s9.heap.get? b = some o ∧ H9 b = none) := fun {H9 σ9 s9} I9 b hb o e =>
        ⟨(I9.pin (b, o) (List.mem_append_right _ (List.mem_append_right _ (mem_pinsAt hb e)))).1, (I9.pin (b, o) (List.mem_append_right _ (List.mem_append_right _ (mem_pinsAt hb e)))).2.1⟩
      cases b with
      | false =>
        rw [if_neg Bool.false_ne_true] at q8 ⊢
        obtain ⟨m', hm, w8⟩ := q8
        refine ⟨m', hm, i + 1, ys, its, k, H8, some xv, I8.unpinned, T.keep _ _ _ st6 fun b hb o e => (keepT I8 b hb o e).1, fun b hb => ?_, rv4, hz4, w8⟩
        obtain ⟨o, e, _⟩ := T.obj _ _ st6 b hb
        exact (keepT I8 b hb o e).2
      | true =>
        rw [if_pos rfl] at q8 ⊢
        refine thn (he C s2 H2 fp _ s8 _ H8 _ I8 q8) fun y s9 ⟨yv, H9, I9, r9, q9⟩ => ?_
        obtain ⟨m', hm, w9⟩ := q9
        obtain ⟨eD, nD, neD, nfD, _⟩ := I9.pin (D, lobj its k) (by simp [Cx.comp])
        have hlen := rv4.length
        refine wpAny_list_append_plain (items := its.toArray) ⟨k, eD⟩ (fun h10 hp10 hs10 => ?_) (by rw [List.size_toArray]; omega)
        obtain ⟨k', e10⟩ := hp10
        have J9 : Inv (X.comp scope (x :: fv) C s2 H2 fp) (pinsAt fp s6.heap) (some xv :: pick ix σ) H9 s9 := I9.pins_of fun p hp => I9.pin p (List.mem_append_right _ (List.mem_append_right _ hp))
        have J10 : Inv (X.comp scope (x :: fv) C s2 H2 fp) (pinsAt fp s6.heap) (some xv :: pick ix σ) H9 { s9 with heap := h10 } :=
          J9.turned (t' := s9.toks) (it := D) (fun b o hb e => (hs10.2 b hb).trans e) nD neD (.inr hD) (fun y c h1 z => by
            obtain ⟨_, o, ho, _⟩ := I2.cell y c (clos_get hcl h1)
            exact nbD c (Heap.lt_size ho) z) (fun p hp z => by
            obtain ⟨hb, _⟩ := of_pinsAt (show p ∈ pinsAt fp s6.heap by simpa [Cx.comp] using hp)
            exact fpD p.1 hb z)
        have e10' : h10.get? D = some (lobj (its ++ [y]) k') := by
          rw [e10]
          simp [lobj]
        refine ⟨m', hm, i + 1, ys ++ [yv], its ++ [y], k', H9, some xv, J10.pins_of fun p hp => ?_, T.keep _ _ _ st6 fun b hb o e => (hs10.2 b (fpD b hb)).trans (keepT I9 b hb o e).1, fun b hb => ?_, rv4.append (.cons r9 .nil), ?_, w9⟩
        · have hp' : p = (D, lobj (its ++ [y]) k') := by simpa using hp
          subst hp'
          exact ⟨e10', nD, neD, nfD, fun v z => by have z' : Data.seq _ _ = Data.cell v := z; cases z'⟩
        · obtain ⟨o, e, _⟩ := T.obj _ _ st6 b hb
          exact (keepT I9 b hb o e).2
        · rw [List.length_append, List.length_singleton]; omega
  exact codeAny_compStart_list (loop _ rfl) (T.self _ 0 _ _ _ st3 (loop _ rfl))
variable {y : Str} {iy : Nat} {py px pos spos : Pos} {elt iter : Expr} {ifs : List Expr} {osc : Scope} {wi : TI} {tt : TT} {te : TE}
theorem bs_setlc (hc : X.calm = true) (S₀ : LcScope scope x fv osc) (hix : ix.map (fun i => X.N[i]?) = fv.map some) (hi : BI X (.Name x px) iter wi)
    (ht : ∀ (C : Addr) (s₀ : Shared) (H₀ : Hp) (ex : List Addr), BF (X.comp scope (x :: fv) C s₀ H₀ ex) ifs tt) (he : ∀ (C : Addr) (s₀ : Shared) (H₀ : Hp) (ex : List Addr), BE (X.comp scope (x :: fv) C s₀ H₀ ex) elt te)
    (hN : X.N.Nodup) (hyi : X.N[iy]? = some y) (hyx : Loc X.env.scope y) (hsw : swapsWith (.ListComp elt [⟨.Name x px, iter, ifs, 0⟩] scope pos) (some (.Name y py)) spos.line X.env = pure true := by rfl) (hf : X.fn y = true ∨ X.env.scope.names.lookup y = some .local := by first | exact .inl rfl | exact .inr rfl | assumption)
    (hosc : X.env.scope = osc := by rfl) (hs : ∀ x, foldedSetIterable iter X.env x = pure x := by intro _; rfl) : BS X (.Assign [.Name y py] (.ListComp elt [⟨.Name x px, iter, ifs, 0⟩] scope pos) spos) (tAsg (tLC ix wi tt te) (gName iy)) :=
  ⟨ps_setlc hc S₀ hix hi.h (fun C s₀ H₀ ex => (ht C s₀ H₀ ex).h) (fun C s₀ H₀ ex => (he C s₀ H₀ ex).h) hN hyi hyx hsw hf hosc hs⟩
end
end L2

set_option Elab.async false
set_option linter.all false
set_option maxRecDepth 100000
set_option maxHeartbeats 4000000
namespace L2
open PySem PySem.Spec PyProof.Rows
section
variable {X : Cx} {K : PySem.W.Frag} {σ : St} {H : Hp} {Q : VK} {e : Expr} {te : TE} {pos : Pos}
/-! ### for k, x in enumerate(xs) -/
def Ite (K : PySem.W.Frag) (a : Addr) : It :=
  ⟨fun i H => ∃ xs x, SqL K H a xs ∧ xs[i]? = some x, fun i H x H' => ∃ p v, x = .ref p ∧ H p = none ∧ (∀ xs, SqL K H a xs → xs[i]? = some v) ∧ H' = upd H p (.tup [.int (i : Int), v]), fun i H => ∃ xs, SqL K H a xs ∧ xs.length ≤ i⟩
def iEnum (K : PySem.W.Frag) (te : TE) : TI := fun σ H R => te σ H fun x H1 => ∃ a, [x] = [V.ref a] ∧ (∃ xs, SqL K H1 a xs) ∧ R (Ite K a) H1
instance y1 {te : TE} {F : It → Hp → Prop} : RdS (iEnum K te σ H F) (te σ H fun x H1 => ∃ a, [x] = [V.ref a] ∧ (∃ xs, SqL K H1 a xs) ∧ F (Ite K a) H1) := ⟨id⟩
end
end L2
namespace L2
open PySem PySem.Spec PyProof.Rows
section
variable {X : Cx} {K : PySem.W.Frag} {σ : St} {H : Hp} {Q : VK} {o e i : Expr} {es : List Expr} {to te ti : TE} {t : TA} {apos cpos pos p2 : Pos}
/-! ### int(truth), text.join(tuple), xs.clear() -/
def rIntB : List V → Hp → VK → Prop := fun xs H Q => ∃ b : Bool, xs = [.bl b] ∧ Q (.int (if b then 1 else 0)) H
theorem c_intB : CallR X (.type "int") rIntB := by
  intro pins s σ H xs us Q I r h
  obtain ⟨b, rfl, q⟩ := h
  obtain ⟨u, rfl, ru⟩ := vals1 r
  cases (show u = Value.bool b from ru)
  exact call_int_bool ⟨.int (if b then 1 else 0), H, I.tok _, ⟨_, rfl⟩, q⟩
theorem rd_intB {b : Bool} (h : Q (.int (if b then 1 else 0)) H) : rIntB [.bl b] H Q := ⟨b, rfl, h⟩
def rJoinT (K : PySem.W.Frag) : V → List V → Hp → VK → Prop := fun x vs H Q => ∃ z p ys, x = .str z ∧ vs = [.ref p] ∧ SqT K H p (ys.map V.str) ∧ (ys.map (·.length)).sum + ys.length * z.length ≤ 16777216 ∧ Q (.str (Txt.join z ys)) H
end
end L2
namespace L2
open PySem PySem.Spec PyProof.Rows
section
variable {X : Cx} {K : PySem.W.Frag} {σ : St} {H : Hp} {Q : VK} {o i : Expr} {to ti : TE} {pos : Pos}
instance y3 {T : String} {r : V → List V → Hp → VK → Prop} {to : TE} : RdS (tBM0 K T r to σ H Q) (to σ H fun x H1 => tyV K T x H1 ∧ r x [] H1 Q) := ⟨id⟩
instance y2 {t : TSet} {v : V} {F : St → Hp → Prop} : RdS (gSub to ti t v σ H F) (to σ H fun o H1 => ti σ H1 fun i H2 => t o i v H2 fun H3 => F σ H3) := ⟨id⟩
end
end L2

set_option Elab.async false
set_option linter.all false
set_option maxRecDepth 100000
set_option maxHeartbeats 4000000
namespace L2
open PySem PySem.Spec PyProof.Rows
section
variable {X : Cx} {K : PySem.W.Frag} {σ : St} {H : Hp} {Q : VK} {o e : Expr} {es : List Expr} {to te : TE} {t : TA} {apos cpos pos p2 : Pos}
/-! ### text.zfill(n), text.startswith(text) -/
def rZfill : V → List V → Hp → VK → Prop := fun x vs H Q => ∃ z i, x = .str z ∧ vs = [.int i] ∧ PadOk i = true ∧ Q (.str (Txt.zfill z i)) H
def rStarts : V → List V → Hp → VK → Prop := fun x vs H Q => ∃ z y, x = .str z ∧ vs = [.str y] ∧ Q (.bl (Txt.startswith z y)) H
theorem mt_starts : MtM X "str.startswith" rStarts := by
  intro pins s σ H x vs v us Q I rx rv h
  obtain ⟨z, y, rfl, rfl, q⟩ := h
  obtain ⟨t, rfl⟩ := rx
  obtain ⟨u, rfl, t', rfl⟩ := rv.one
  exact SC.startswith ⟨.bl (Txt.startswith z y), H, I, rfl, q⟩
theorem rd_starts {z y : Str} (h : Q (.bl (Txt.startswith z y)) H) : rStarts (.str z) [.str y] H Q := ⟨z, y, rfl, rfl, h⟩
theorem bm_startswith (ho : BE X o to) (ha : BA X (e :: es) t) (hbase : attributeBase o "startswith" X.env (eval o X.env) = eval o X.env := by rfl)
    (hfew : ((backTo cpos (starEach (e :: es) X.env)).all (fun x => !x.1) && (backToKw cpos (keywordEach [] X.env)).all (fun x => x.1.isSome)
      && decide ((e :: es).length + ([] : List Keyword).length + (if ([] : List Keyword).isEmpty then 0 else 1) < 30)) = true := by rfl)
    (hline : (apos.endLine == cpos.line) = true := by rfl) (h1 : isStar e = false := by rfl) (h2 : noStar es = true := by rfl) :
    BE X (.Call (.Attribute o "startswith" apos) (e :: es) [] cpos) (tBM X.K "str" rStarts to t) :=
  ⟨pe_bm F.plainAttrs_str F.slot_str_startswith F.type_str_startswith mt_starts ho.h ha.h hbase hfew hline (star_cons h1) (star_any h2)⟩
end
end L2
namespace L2
open PySem PySem.Spec PyProof.Rows
section
variable {σ : St} {H : Hp} {Q : VK} {te : TE} {t : TJ} {out : Str} {F : Str → Hp → Prop}
/-! ### f-strings, read step by step -/
instance z1 : RdS (tFs t σ H Q) (t σ H Str.empty fun z H1 => Q (.str z) H1) := ⟨id⟩
instance z2 : RdS (jCons te t σ H out F) (te σ H fun x H1 => ∃ y, x = .str y ∧ (out ++ y).length ≤ sizeLine ∧ t σ H1 (out ++ y) F) := ⟨id⟩
instance z3 : RdS (tFmt te σ H Q) (te σ H fun x H1 => (∃ i, x = .int i ∧ i.natAbs.log2 < 1920 ∧ Q (.str (toString i)) H1) ∨ ∃ z, x = .str z ∧ z.length ≤ sizeLine ∧ Q (.str z) H1) := ⟨id⟩
end
end L2

set_option Elab.async false
set_option linter.all false
set_option maxRecDepth 100000
set_option maxHeartbeats 4000000
namespace L2
open PySem PySem.Spec PyProof.Rows
/-! ### numbers with noughts ahead -/
def padL (n : Nat) : Nat → List Nat
  | 0 => []
  | i + 1 => (48 + n / 10 ^ i % 10) :: padL n i
theorem padL_len (n k : Nat) : (padL n k).length = k := by
  induction k with
  | zero => rfl
  | succ k ih => simp only [padL, List.length_cons, ih]
theorem padL_dig (n k : Nat) : NumText.AllDigits (padL n k) := by
  induction k with
  | zero => intro c hc; cases hc
  | succ k ih =>
    intro c hc
    rcases List.mem_cons.mp hc with rfl | h
    · omega
    · exact ih c h
theorem foldl_pad (n : Nat) : ∀ (k a : Nat), (padL n k).foldl (fun acc c => acc * 10 + (c - 48)) a = a * 10 ^ k + n % 10 ^ k
  | 0, a => by simp [padL, Nat.mod_one]
  | k + 1, a => by
    simp only [padL, List.foldl_cons]
    rw [foldl_pad n k, Nat.add_sub_cancel_left]
    have h1 := Nat.div_add_mod n (10 ^ k)
    have h2 := Nat.div_add_mod (n / 10 ^ k) 10
    have h3 : n % 10 ^ (k + 1) = n % 10 ^ k + 10 ^ k * (n / 10 ^ k % 10) := by
      rw [Nat.pow_succ, Nat.mod_mul]
    rw [h3, Nat.pow_succ, Nat.add_mul, Nat.mul_assoc, Nat.mul_comm 10 (10 ^ k), Nat.mul_comm (n / 10 ^ k % 10) (10 ^ k)]
    omega
theorem padL_val {n k : Nat} (h : n < 10 ^ k) : NumText.digitsVal (padL n k) = n := by
  unfold NumText.digitsVal
  rw [foldl_pad, Nat.mod_eq_of_lt h]
  omega
theorem drop48 : ∀ cs : List Nat, cs = List.replicate (cs.length - (cs.dropWhile (· == 48)).length) 48 ++ cs.dropWhile (· == 48)
  | [] => rfl
  | c :: cs => by
    by_cases h : c = 48
    · subst h
      have ih := drop48 cs
      have hl : (cs.dropWhile (· == 48)).length ≤ cs.length := (List.dropWhile_sublist _).length_le
      rw [List.dropWhile_cons_of_pos (by simp), List.length_cons, show cs.length + 1 - (cs.dropWhile (· == 48)).length = (cs.length - (cs.dropWhile (· == 48)).length) + 1 by omega, List.replicate_succ, List.cons_append, ← ih]
    · rw [List.dropWhile_cons_of_neg (by simpa using h)]
      simp
def padS (n k : Nat) : Str := ⟨(padL n k).toArray⟩
/-- the figures of a number -/
theorem num_list (n : Nat) : (Str.ofString (toString (n : Int))).cps.toList = (Nat.toDigits 10 n).map Char.toNat := PySem.W.KIN.signs_num n
theorem map_back : ∀ {cs : List Nat}, NumText.AllDigits cs → (cs.map Char.ofNat).map Char.toNat = cs
  | [], _ => rfl
  | c :: cs, h => by
    have hc := h c List.mem_cons_self
    have : (Char.ofNat c).toNat = c := by
      obtain ⟨d, rfl⟩ : ∃ d, c = 48 + d := ⟨c - 48, by omega⟩
      have hd : d < 10 := by omega
      match d, hd with
      | 0, _ => rfl
      | 1, _ => rfl
      | 2, _ => rfl
      | 3, _ => rfl
      | 4, _ => rfl
      | 5, _ => rfl
      | 6, _ => rfl
      | 7, _ => rfl
      | 8, _ => rfl
      | 9, _ => rfl
    rw [List.map_cons, List.map_cons, this, map_back fun x hx => h x (List.mem_cons_of_mem _ hx)]
theorem num_pad {n k : Nat} (h : n < 10 ^ k) (hk : 1 ≤ k) : padL n k = List.replicate (k - (Str.ofString (toString (n : Int))).length) 48 ++ (Str.ofString (toString (n : Int))).cps.toList := by
  have hd := padL_dig n k
  have ha := NumText.toDigits_all (padL n k) hd
  rw [padL_val h] at ha
  have e := drop48 (padL n k)
  rw [padL_len] at e
  rw [len_list, num_list, ha]
  cases hc : (padL n k).dropWhile (· == 48) with
  | nil =>
    rw [hc] at e
    simp only [List.length_nil, Nat.sub_zero, List.append_nil] at e
    rw [e]
    obtain ⟨m, rfl⟩ : ∃ m, k = m + 1 := ⟨k - 1, by omega⟩
    show List.replicate (m + 1) 48 = List.replicate (m + 1 - 1) 48 ++ [48]
    rw [Nat.add_sub_cancel, List.replicate_succ']
  | cons c r =>
    rw [hc] at e
    have hcr : NumText.AllDigits (c :: r) := fun x hx => hd x (by rw [e]; exact List.mem_append_right _ hx)
    simp only
    rw [map_back hcr]
    exact e
end L2

set_option Elab.async false
set_option linter.all false
set_option maxRecDepth 100000
set_option maxHeartbeats 4000000
namespace L2
open PySem PySem.Spec PyProof.Rows
/-! ### cuts of texts, numbers read back -/
theorem len_app (x y : Str) : (x ++ y).length = x.length + y.length := by rw [len_list, app_list, List.length_append, ← len_list, ← len_list]
theorem slice_tail (a b : Str) {i : Int} (hi : i = (a.length : Nat)) : Txt.slice (a ++ b) (some i) none = b := by
  subst hi
  refine str_ext ?_
  rw [slice_from (by omega) (by rw [len_app]; omega), app_list]
  rw [show ((a.length : Nat) : Int).toNat = a.length by omega, len_list a, List.drop_left]
end L2

set_option Elab.async false
set_option linter.all false
set_option maxRecDepth 100000
set_option maxHeartbeats 4000000
namespace L2
open PySem PySem.Spec PyProof.Rows
section
variable {X : Cx} {K : PySem.W.Frag} {σ : St} {H : Hp} {Q : VK} {o e : Expr} {es : List Expr} {to te : TE} {t : TA} {apos cpos pos p2 : Pos}
/-! ### text.split(text) -/
theorem strsFrom_vals : ∀ (zs : List Str) (n : Nat), Vals (zs.map V.str) (strsFrom n zs)
  | [], _ => .nil
  | z :: zs, n => .cons ⟨_, rfl⟩ (strsFrom_vals zs (n + 1))
def rSplit : V → List V → Hp → VK → Prop := fun x vs H Q => ∃ z y, x = .str z ∧ vs = [.str y] ∧ (y.length == 0) = false ∧ z.length + 2 ≤ sizeLine ∧ ∀ p H1, H p = none → Same H H1 → H1 p = some (.lst ((Txt.split z y).map V.str)) → Q (.ref p) H1
theorem mt_split : MtM X "str.split" rSplit := by
  intro pins s σ H x vs v us Q I rx rv h
  obtain ⟨z, y, rfl, rfl, hy, hz, q⟩ := h
  obtain ⟨t, rfl⟩ := rx
  obtain ⟨u, rfl, t', rfl⟩ := rv.one
  have hl : (Txt.split z y).length ≤ sizeLine := Nat.le_trans (split_le z y) hz
  have fin : ∀ (vs : List Value) (tk : Nat), Vals ((Txt.split z y).map V.str) vs → EP X pins σ Q (.ref s.heap.objs.size) { s with toks := tk, heap := s.heap.push { cls := .type "list", data := .seq vs.toArray } } := fun vs tk rv =>
    ⟨.ref s.heap.objs.size, _, I.laid (o := .lst _) (t' := tk) (fun b u => Heap.get?_push_of_some _) (Nat.le_refl _) ⟨by rw [List.length_map]; exact hl, vs, _, rv, Heap.get?_push_size _ rfl⟩, rfl, q _ _ I.fresh (same_new I.fresh) upd_same⟩
  by_cases h1 : (decide (z.length < y.length) || decide (Builtin.Str.strKind z < Builtin.Str.strKind y)) = true
  · rw [show Txt.split z y = [z] by unfold Txt.split; rw [if_pos h1]] at fin
    exact call_meets F.slot_str_split (typeIs_str s z t) F.entry_str_split (F.args_str_split_2 _ _) (meets_str_split_cannot_occur z y t t' h1) (fin _ _ (.cons ⟨_, rfl⟩ .nil))
  · by_cases h2 : (Builtin.Str.occurrences z y 0 z.length (z.length + 1)).isEmpty = true
    · rw [show Txt.split z y = [z] by unfold Txt.split; rw [if_neg h1, if_pos h2]] at fin
      exact call_meets F.slot_str_split (typeIs_str s z t) F.entry_str_split (F.args_str_split_2 _ _) (meets_str_split_not_found z y t t' (Bool.eq_false_iff.mpr h1) hy h2) (fin _ _ (.cons ⟨_, rfl⟩ .nil))
    · have e : Txt.split z y = Builtin.Str.partsBetween z (Builtin.Str.occurrences z y 0 z.length (z.length + 1)) y.length := by unfold Txt.split; rw [if_neg h1, if_neg h2]
      rw [e] at fin hl
      exact call_meets F.slot_str_split (typeIs_str s z t) F.entry_str_split (F.args_str_split_2 _ _) (meets_str_split_sep z y t t' (Bool.eq_false_iff.mpr h1) hy (Bool.eq_false_iff.mpr h2) (by omega) hl) (fin _ _ (strsFrom_vals _ _))
theorem bm_split (ho : BE X o to) (ha : BA X (e :: es) t) (hbase : attributeBase o "split" X.env (eval o X.env) = eval o X.env := by rfl)
    (hfew : ((backTo cpos (starEach (e :: es) X.env)).all (fun x => !x.1) && (backToKw cpos (keywordEach [] X.env)).all (fun x => x.1.isSome)
      && decide ((e :: es).length + ([] : List Keyword).length + (if ([] : List Keyword).isEmpty then 0 else 1) < 30)) = true := by rfl)
    (hline : (apos.endLine == cpos.line) = true := by rfl) (h1 : isStar e = false := by rfl) (h2 : noStar es = true := by rfl) :
    BE X (.Call (.Attribute o "split" apos) (e :: es) [] cpos) (tBM X.K "str" rSplit to t) :=
  ⟨pe_bm F.plainAttrs_str F.slot_str_split F.type_str_split mt_split ho.h ha.h hbase hfew hline (star_cons h1) (star_any h2)⟩
theorem rd_split {z y : Str} (hy : (y.length == 0) = false) (hz : z.length + 2 ≤ sizeLine) (q : ∀ p H1, H p = none → Same H H1 → H1 p = some (.lst ((Txt.split z y).map V.str)) → Q (.ref p) H1) : rSplit (.str z) [.str y] H Q := ⟨z, y, rfl, rfl, hy, hz, q⟩
end
/-! ### the rows of a text -/
def glue (c : Nat) : List (List Nat) → List Nat
  | [] => []
  | [a] => a
  | a :: b :: r => a ++ c :: glue c (b :: r)
theorem take_free {c : Nat} : ∀ {a b r q : List Nat}, c ∉ a → c ∉ b → a ++ c :: r = b ++ c :: q → a = b ∧ r = q
  | [], [], r, q, _, _, h => ⟨rfl, (List.cons.inj h).2⟩
  | [], y :: b, r, q, _, hb, h => absurd (List.cons.inj h).1 (fun e => hb (e ▸ List.mem_cons_self))
  | x :: a, [], r, q, ha, _, h => absurd (List.cons.inj h).1 (fun e => ha (e ▸ List.mem_cons_self))
  | x :: a, y :: b, r, q, ha, hb, h => by
    obtain ⟨e, h'⟩ := List.cons.inj h
    obtain ⟨h1, h2⟩ := take_free (fun hc => ha (List.mem_cons_of_mem _ hc)) (fun hc => hb (List.mem_cons_of_mem _ hc)) h'
    exact ⟨by rw [e, h1], h2⟩
theorem glue_inj {c : Nat} : ∀ {as bs : List (List Nat)}, as ≠ [] → bs ≠ [] → (∀ a ∈ as, c ∉ a) → (∀ b ∈ bs, c ∉ b) → glue c as = glue c bs → as = bs
  | [], _, h, _, _, _, _ => absurd rfl h
  | _, [], _, h, _, _, _ => absurd rfl h
  | [a], [b], _, _, _, _, h => by rw [show a = b from h]
  | [a], b :: b' :: bs, _, _, ha, _, h => by
    refine absurd ?_ (ha a List.mem_cons_self)
    rw [show a = b ++ c :: glue c (b' :: bs) from h]
    exact List.mem_append_right _ List.mem_cons_self
  | a :: a' :: as, [b], _, _, _, hb, h => by
    refine absurd ?_ (hb b List.mem_cons_self)
    rw [← show a ++ c :: glue c (a' :: as) = b from h]
    exact List.mem_append_right _ List.mem_cons_self
  | a :: a' :: as, b :: b' :: bs, _, _, ha, hb, h => by
    obtain ⟨h1, h2⟩ := take_free (ha a List.mem_cons_self) (hb b List.mem_cons_self) h
    rw [h1, glue_inj (List.cons_ne_nil _ _) (List.cons_ne_nil _ _) (fun x hx => ha x (List.mem_cons_of_mem _ hx)) (fun x hx => hb x (List.mem_cons_of_mem _ hx)) h2]
end L2

set_option Elab.async false
set_option linter.all false
set_option maxRecDepth 100000
set_option maxHeartbeats 4000000
namespace L2
open PySem PySem.Spec PyProof.Rows
theorem join_glue (c : Nat) : ∀ zs : List Str, (Str.join ⟨#[c]⟩ zs).cps.toList = glue c (zs.map fun z => z.cps.toList)
  | [] => rfl
  | [a] => rfl
  | a :: b :: r => by
    have ih := join_glue c (b :: r)
    show (a ++ (⟨#[c]⟩ : Str) ++ Str.join ⟨#[c]⟩ (b :: r) : Str).cps.toList = a.cps.toList ++ c :: glue c ((b :: r).map fun z => z.cps.toList)
    rw [app_list, app_list, ih, List.append_assoc]
    rfl
theorem map_cps_inj : ∀ {as bs : List Str}, (as.map fun z => z.cps.toList) = (bs.map fun z => z.cps.toList) → as = bs
  | [], [], _ => rfl
  | [], _ :: _, h => by cases h
  | _ :: _, [], h => by cases h
  | a :: as, b :: bs, h => by
    rw [List.map_cons, List.map_cons] at h
    obtain ⟨h1, h2⟩ := List.cons.inj h
    rw [str_ext h1, map_cps_inj h2]
/-- a text of parts that are free of the sign is split into them -/
theorem split_eq {x : Str} {c : Nat} {zs : List Str} (h0 : zs ≠ []) (hf : ∀ z ∈ zs, c ∉ z.cps.toList) (hx : x.cps.toList = glue c (zs.map fun z => z.cps.toList)) : Txt.split x ⟨#[c]⟩ = zs := by
  have hj := StrLaws.join_split x ⟨#[c]⟩
  have hp := split_pos x ⟨#[c]⟩
  refine map_cps_inj (glue_inj (c := c) (fun h => ?_) (fun h => h0 (List.map_eq_nil_iff.mp h)) (fun a ha => ?_) (fun a ha => ?_) ?_)
  · rw [List.map_eq_nil_iff.mp h] at hp
    exact absurd hp (by simp)
  · obtain ⟨z, hz, rfl⟩ := List.mem_map.mp ha
    exact StrLaws.split_free x c z hz
  · obtain ⟨z, hz, rfl⟩ := List.mem_map.mp ha
    exact hf z hz
  · rw [← join_glue, hj, hx]
def endsL (c : Nat) : List (List Nat) → List Nat
  | [] => []
  | r :: rs => r ++ c :: endsL c rs
theorem glue_ends (c : Nat) : ∀ rs : List (List Nat), glue c (rs ++ [[]]) = endsL c rs
  | [] => rfl
  | [r] => rfl
  | r :: q :: rs => by
    show r ++ c :: glue c (q :: rs ++ [[]]) = r ++ c :: endsL c (q :: rs)
    rw [glue_ends c (q :: rs)]
/-- a text of rows, each with its end: the rows, and the empty text behind -/
theorem split_ends {x : Str} {c : Nat} {zs : List Str} (hf : ∀ z ∈ zs, c ∉ z.cps.toList) (hx : x.cps.toList = endsL c (zs.map fun z => z.cps.toList)) : Txt.split x ⟨#[c]⟩ = zs ++ [Str.ofString ""] := by
  refine split_eq (by simp) (fun z hz => ?_) ?_
  · rcases List.mem_append.mp hz with h | h
    · exact hf z h
    · rw [List.mem_singleton.mp h]
      exact List.not_mem_nil
  · rw [List.map_append, hx, ← glue_ends]
    rfl
end L2

set_option Elab.async false
set_option linter.all false
set_option maxRecDepth 100000
set_option maxHeartbeats 4000000
namespace L2
open PySem PySem.Spec PyProof.Rows
section
variable {X : Cx} {K : PySem.W.Frag} {σ : St} {H : Hp} {Q : VK}
/-! ### sorted(a list of whole numbers), sorted(a list of texts): fewer than 64 -/
theorem Vals.len {xs : List V} {us : List Value} (h : Vals xs us) : us.length = xs.length := by
  induction h with
  | nil => rfl
  | cons _ _ ih => simp only [List.length_cons, ih]
def rSortI (K : PySem.W.Frag) : List V → Hp → VK → Prop := fun xs H Q => ∃ p ns, xs = [.ref p] ∧ SqL K H p (ns.map V.int) ∧ ns.length < 64 ∧ ∀ ns' l H1, ns'.Perm ns → List.Pairwise (fun x y => x ≤ y) ns' → H l = none → Same H H1 → H1 l = some (.lst (ns'.map V.int)) → Q (.ref l) H1
def rSortS (K : PySem.W.Frag) : List V → Hp → VK → Prop := fun xs H Q => ∃ p ns, xs = [.ref p] ∧ SqL K H p (ns.map V.str) ∧ ns.length < 64 ∧ ∀ ns' l H1, ns'.Perm ns → sortedS ns' = true → H l = none → Same H H1 → H1 l = some (.lst (ns'.map V.str)) → Q (.ref l) H1
end
end L2

set_option Elab.async false
set_option linter.all false
set_option maxRecDepth 100000
set_option maxHeartbeats 4000000
namespace L2
open PySem PySem.Spec PyProof.Rows
section
variable {X : Cx} {K : PySem.W.Frag} {σ : St} {H : Hp} {Q : VK} {o e : Expr} {es : List Expr} {to te : TE} {t : TA} {apos cpos pos p2 : Pos}
/-! ### text.endswith(text); what begins and ends with what -/
def rEnds : V → List V → Hp → VK → Prop := fun x vs H Q => ∃ z y, x = .str z ∧ vs = [.str y] ∧ Q (.bl (Txt.endswith z y)) H
theorem starts_iff (x y : Str) : Txt.startswith x y = true ↔ y.cps.toList <+: x.cps.toList := by
  unfold Txt.startswith
  rw [StrLaws.subAt_eq, List.drop_zero, Bool.and_eq_true, decide_eq_true_eq, beq_iff_eq, Nat.zero_add, len_list, len_list]
  rw [List.prefix_iff_eq_take]
  exact ⟨fun h => h.2.symm, fun h => ⟨by rw [h, List.length_take]; omega, h.symm⟩⟩
theorem starts_one (z : Str) (s : String) (c : Nat) (h : Str.ofString s = ⟨#[c]⟩) : Txt.startswith z (Str.ofString s) = true ↔ atI z.cps.toList 0 = some c := by
  rw [starts_iff, h]
  show [c] <+: z.cps.toList ↔ _
  cases z.cps.toList with
  | nil => exact ⟨fun h => absurd h (by simp), fun h => by cases h⟩
  | cons a l =>
    rw [show atI (a :: l) 0 = some a from atI_nat (xs := a :: l) (j := 0) rfl]
    constructor
    · rintro ⟨t, ht⟩; injection ht with h1; rw [h1]
    · intro h; injection h with h; subst h; exact ⟨l, rfl⟩
end
end L2

set_option Elab.async false
set_option linter.all false
set_option maxRecDepth 100000
set_option maxHeartbeats 4000000
namespace L2
open PySem PySem.Spec PyProof.Rows
theorem cutV_last (xs : List V) (x : V) : cutV (xs ++ [x]) none (some (-1)) = xs := by
  unfold cutV
  have e : HT.sIx (xs ++ [x]).length (xs ++ [x]).length (some (-1)) = xs.length := by
    unfold HT.sIx
    rw [List.length_append, List.length_singleton]
    simp only
    rw [if_pos (by decide)]
    omega
  rw [HT.sIx_none, e]
  rw [List.drop_zero, Nat.sub_zero, List.take_left]
end L2

set_option Elab.async false
set_option linter.all false
set_option maxRecDepth 100000
set_option maxHeartbeats 4000000
namespace L2
open PySem PySem.Spec PyProof.Rows
section
variable {K : PySem.W.Frag} {σ : St} {H : Hp} {Q : VK} {ix : List Nat} {te : TE} {tt : TT}
/-! ### comprehensions with a test, told by an invariant -/
theorem ite_both {p : Prop} [Decidable p] {T U : TS} {D : Ends} (R : St → Hp → Prop) (h2 : ∀ σ' H', R σ' H' → D.nx σ' H') (hp : p → ∀ nx' : St → Hp → Prop, (∀ σ' H', R σ' H' → nx' σ' H') → T { nx := nx', rt := D.rt, bk := D.bk, ct := D.ct } σ H) (hn : ¬ p → ∀ nx' : St → Hp → Prop, (∀ σ' H', R σ' H' → nx' σ' H') → U { nx := nx', rt := D.rt, bk := D.bk, ct := D.ct } σ H) : if p then T D σ H else U D σ H := by
  by_cases h : p
  · rw [if_pos h]
    exact hp h D.nx h2
  · rw [if_neg h]
    exact hn h D.nx h2
end
end L2

set_option Elab.async false
set_option linter.all false
set_option maxRecDepth 100000
set_option maxHeartbeats 4000000
namespace L2
open PySem PySem.Spec PyProof.Rows
section
variable {X : Cx} {K : PySem.W.Frag} {σ : St} {H : Hp} {Q : VK}
/-! ### set(a list of whole numbers), and how many it has -/
theorem dedup_nodup : ∀ (ns σ : List Int), (σ ++ ns).Nodup → ns.foldl step_dedup σ = σ ++ ns
  | [], σ, _ => by simp
  | n :: ns, σ, h => by
    have hn : ¬ σ.any (· == n) = true := by
      intro c
      obtain ⟨x, hx, e⟩ := List.any_eq_true.mp c
      have e' : x = n := by simpa using e
      rw [e'] at hx
      exact (List.nodup_append.mp h).2.2 n hx n List.mem_cons_self rfl
    rw [List.foldl_cons, show step_dedup σ n = σ ++ [n] from if_neg hn, dedup_nodup ns (σ ++ [n]) (by rw [List.append_assoc]; exact h), List.append_assoc]
    rfl
theorem range_getD (ns : List Int) : (List.range ns.length).map (fun i => ns.getD i 0) = ns := by
  apply List.ext_getElem
  · simp
  · intro i h1 h2
    simp at h1
    simp [List.getD_eq_getElem?_getD, List.getElem?_eq_getElem h1]
def rSetI (K : PySem.W.Frag) : List V → Hp → VK → Prop := fun xs H Q => ∃ (p : Addr) (ns : List Int), xs = [.ref p] ∧ SqL K H p (ns.map V.int) ∧ ns.length < 4000 ∧ ns.Nodup ∧ ∀ S l H1, H l = none → Same H H1 → H1 l = some (.set S ns.length) → Q (.ref l) H1
def rLenI : List V → Hp → VK → Prop := fun xs H Q => ∃ p S n, xs = [.ref p] ∧ H p = some (.set S n) ∧ n < 4000 ∧ Q (.int (n : Nat)) H
theorem c_lenI : CallR X (.builtin "len") rLenI := by
  intro pins s σ H xs us Q I r h
  obtain ⟨p, S, n, rfl, hp, hn, q⟩ := h
  obtain ⟨u, rfl, ru⟩ := vals1 r
  cases (show u = Value.ref p from ru)
  obtain ⟨o, es, ep, t, ho, hex, hd, _, _, _, hf, hsz⟩ := (show s.heap.SetOf (intKind X.prog X.w) p S n from I.hok p _ hp)
  subst hsz
  exact call_len_set ho hex hd hf (by omega) ⟨.int (es.size : Nat), H, I.tok _, ⟨_, rfl⟩, q⟩
theorem rd_lenI {p : Addr} {S : Int → Bool} {n : Nat} (h1 : H p = some (.set S n)) (h2 : n < 4000) (q : Q (.int (n : Nat)) H) : rLenI [.ref p] H Q := ⟨p, S, n, rfl, h1, h2, q⟩
end
end L2

set_option Elab.async false
set_option linter.all false
set_option maxRecDepth 100000
set_option maxHeartbeats 4000000
namespace PySem
open PySem PySem.Spec PySem.AutoSeq1
end PySem
namespace L2
open PySem PySem.Spec PyProof.Rows
section
variable {X : Cx} {K : PySem.W.Frag} {σ : St} {H : Hp} {Q : VK} {o e : Expr} {es : List Expr} {to te : TE} {t : TA} {apos cpos pos p2 : Pos}
/-! ### list.extend(a list), list.extend(a tuple) -/
def rExtendT (K : PySem.W.Frag) : V → List V → Hp → VK → Prop := fun x vs H Q => ∃ l b xs zs, x = .ref l ∧ vs = [.ref b] ∧ H l = some (.lst xs) ∧ SqT K H b zs ∧ xs.length + zs.length ≤ sizeLine ∧ Q .non (upd H l (.lst (xs ++ zs)))
theorem bm_extend (ho : BE X o to) (ha : BA X (e :: es) t) (hbase : attributeBase o "extend" X.env (eval o X.env) = eval o X.env := by rfl)
    (hfew : ((backTo cpos (starEach (e :: es) X.env)).all (fun x => !x.1) && (backToKw cpos (keywordEach [] X.env)).all (fun x => x.1.isSome)
      && decide ((e :: es).length + ([] : List Keyword).length + (if ([] : List Keyword).isEmpty then 0 else 1) < 30)) = true := by rfl)
    (hline : (apos.endLine == cpos.line) = true := by rfl) (h1 : isStar e = false := by rfl) (h2 : noStar es = true := by rfl) :
    BE X (.Call (.Attribute o "extend" apos) (e :: es) [] cpos) (tBM X.K "list" rExtend to t) :=
  ⟨pe_bm F.plainAttrs_list F.slot_list_extend F.type_list_extend mt_extend ho.h ha.h hbase hfew hline (star_cons h1) (star_any h2)⟩
theorem rd_extend {l b : Addr} {xs zs : List V} (h1 : H l = some (.lst xs)) (h2 : H b = some (.lst zs)) (h3 : xs.length + zs.length ≤ sizeLine) (q : Q .non (upd H l (.lst (xs ++ zs)))) : rExtend (.ref l) [.ref b] H Q := ⟨l, b, xs, zs, rfl, rfl, h1, h2, h3, q⟩
/-! ### x in a list of whole numbers -/
theorem inV_ints (x : Int) (ns : List Int) : inV (.int x) (ns.map V.int) = decide (x ∈ ns) := by
  unfold inV
  induction ns with
  | nil => simp
  | cons n ns ih =>
    rw [List.map_cons, List.any_cons, ih]
    have e : eqV (.int n) (.int x) = decide (x = n) := by
      by_cases h : x = n
      · subst h; simp [eqV]
      · simp [eqV, h, Ne.symm h]
    rw [e]
    simp
theorem flat_ints (ns : List Int) : (ns.map V.int).all flatV = true := by
  rw [List.all_map]
  exact List.all_eq_true.mpr fun n _ => rfl
theorem rd_inL {p : Addr} {ns : List Int} {x : V} {neg : Bool} (h1 : SqL K H p (ns.map V.int)) (h2 : flatV x = true) (q : Q (.bl (if neg then !inV x (ns.map V.int) else inV x (ns.map V.int))) H) : rIn K neg x (.ref p) H Q := ⟨p, _, rfl, .inl h1, h2, flat_ints ns, q⟩
end
end L2

set_option Elab.async false
set_option linter.all false
set_option maxRecDepth 100000
set_option maxHeartbeats 4000000
namespace L2
open PySem PySem.Spec PyProof.Rows
/-! ### a number's own figures -/
def numT (n : Nat) : Str := Str.ofString (toString (n : Int))
theorem numT_le {n k : Nat} (h : n < 10 ^ k) (hk : 1 ≤ k) : (numT n).length ≤ k := by
  have e := congrArg List.length (num_pad h hk)
  rw [padL_len, List.length_append, List.length_replicate] at e
  have : (Str.ofString (toString (n : Int))).cps.toList.length = (numT n).length := (len_list _).symm
  rw [this] at e
  have e2 : (Str.ofString (toString (n : Int))).length = (numT n).length := rfl
  omega
theorem numT_dig {n k : Nat} (h : n < 10 ^ k) (hk : 1 ≤ k) : NumText.AllDigits (numT n).cps.toList := fun c hc => padL_dig n k c (by rw [num_pad h hk]; exact List.mem_append_right _ hc)
theorem lt_pow (n : Nat) : n < 10 ^ (n + 1) := by
  induction n with
  | zero => decide
  | succ n ih => rw [Nat.pow_succ]; omega
theorem numT_digs (n : Nat) : NumText.AllDigits (numT n).cps.toList := numT_dig (lt_pow n) (by omega)
theorem numT_ne (n : Nat) : (numT n).cps.toList ≠ [] := by
  intro h
  have e : (numT n).cps.toList = (Nat.toDigits 10 n).map Char.toNat := num_list n
  rw [h] at e
  have := congrArg List.length e
  rw [List.length_map] at this
  have h2 : 0 < (Nat.toDigits 10 n).length := Nat.length_toDigits_pos
  simp at this
  omega
theorem numT_fig (n : Nat) : figB (numT n) = true := figB_iff.mpr ⟨numT_ne n, numT_digs n⟩
theorem numT_val {n : Nat} (h : n < 10 ^ 20) : numM (numT n) = n := by
  have hl := numT_le h (by decide)
  have hp := num_pad h (by decide)
  have hv := padL_val h
  rw [hp] at hv
  unfold NumText.digitsVal at hv
  rw [List.foldl_append] at hv
  have e0 : ∀ k : Nat, (List.replicate k 48).foldl (fun acc c => acc * 10 + (c - 48)) 0 = 0 := fun k => by
    induction k with
    | zero => rfl
    | succ k ih => rw [List.replicate_succ, List.foldl_cons]; exact ih
  rw [e0] at hv
  exact hv
theorem numT_lt {n : Nat} (h : n < 10 ^ 20) : n < 10 ^ (numT n).length := by
  have := digits_lt (numT n).cps.toList 0 (numT_digs n)
  have e := numT_val h
  unfold numM at e
  rw [← len_list] at this
  have e' : (numT n).cps.toList.foldl (fun acc c => acc * 10 + (c - 48)) 0 = n := e
  rw [e'] at this
  simpa using this
theorem numT_mono {n m : Nat} (h : n ≤ m) (hm : m < 10 ^ 20) : (numT n).length ≤ (numT m).length := by
  have h1 := numT_lt hm
  have h2 : 1 ≤ (numT m).length := by
    rw [len_list]
    exact List.length_pos_iff.mpr (numT_ne m)
  exact numT_le (Nat.lt_of_le_of_lt h h1) h2
theorem numT_first {n : Nat} (h1 : 1 ≤ n) (h : n < 10 ^ 20) : atI (numT n).cps.toList 0 ≠ some 48 := by
  intro h0
  have hne := numT_ne n
  have hd := numT_digs n
  have hv := numT_val h
  have hl2 : ∀ k, n < 10 ^ k → 1 ≤ k → (numT n).cps.toList.length ≤ k := fun k a b => by rw [← len_list]; exact numT_le a b
  unfold numM at hv
  generalize (numT n).cps.toList = cs at *
  cases cs with
  | nil => exact hne rfl
  | cons c r =>
    have hc : c = 48 := by
      rw [show atI (c :: r) 0 = some c from atI_nat (xs := c :: r) (j := 0) rfl] at h0
      exact Option.some.inj h0
    subst hc
    have hr := digits_lt r 0 (fun x hx => hd x (List.mem_cons_of_mem _ hx))
    have e : r.foldl (fun acc c => acc * 10 + (c - 48)) 0 = n := hv
    rw [e] at hr
    have hr' : n < 10 ^ r.length := by simpa using hr
    by_cases hz : r.length = 0
    · rw [hz] at hr'; simp at hr'; omega
    · have := hl2 r.length hr' (by omega)
      rw [List.length_cons] at this
      omega
theorem rf_num {n : Nat} {least : Int} {most : Nat} (h1 : least ≤ (n : Int)) (h2 : n ≤ most) (hm : most < 10 ^ 20) (h0 : 1 ≤ n ∨ n = 0) : rfM least (most : Nat) (Str.ofString (toString (most : Int))).length (numT n) = some (n : Int) := by
  have hn : n < 10 ^ 20 := Nat.lt_of_le_of_lt h2 hm
  unfold rfM
  rw [numT_val hn]
  refine if_pos ⟨numT_mono h2 hm, numT_fig n, fun h => ?_, h1, by omega⟩
  rcases h0 with h0 | h0
  · exact numT_first h0 hn h.1
  · subst h0
    exact h.2 (by unfold numT; decide +kernel)
theorem numT_free (n c : Nat) (hc : isFig c = false) : c ∉ (numT n).cps.toList := fun h => by
  have := numT_fig n
  unfold figB at this
  rw [Bool.and_eq_true, List.all_eq_true] at this
  rw [this.2 c h] at hc
  cases hc
end L2

set_option Elab.async false
set_option linter.all false
set_option maxRecDepth 100000
set_option maxHeartbeats 4000000
namespace L2
open PySem PySem.Spec PyProof.Rows
section
variable {K : PySem.W.Frag} {σ : St} {H : Hp} {Q : VK} {ix : List Nat} {te : TE} {tt : TT}
/-! ### comprehensions over a tuple, told by an invariant -/
theorem lcWtf {a : Addr} {xs : List V} (W : Nat → List V → Hp → Prop) (hz : xs.length ≤ sizeLine) (h0 : W 0 [] H) (hl : ∀ i ys H', W i ys H' → SqT K H' a xs ∧ ys.length ≤ i)
    (hE : ∀ i v ys H', xs[i]? = some v → W i ys H' → tt (some v :: pick ix σ) H' fun b H4 => if b = true then te (some v :: pick ix σ) H4 fun y H5 => W (i + 1) (ys ++ [y]) H5 else W (i + 1) ys H4)
    (hQ : ∀ ys p H' H1, W xs.length ys H' → H' p = none → Same H' H1 → H1 p = some (.lst ys) → Q (.ref p) H1) : LcW (Itt K a) ix σ tt te Q H := by
  refine ⟨fun i m ys H2 => m = xs.length - i ∧ i ≤ xs.length ∧ W i ys H2, ⟨xs.length, by simp, Nat.zero_le _, h0⟩, ?_⟩
  rintro i m ys H2 ⟨rfl, hi, w⟩
  obtain ⟨q, e⟩ := hl i ys H2 w
  by_cases hlt : i < xs.length
  · refine .inr ⟨⟨xs, _, q, List.getElem?_eq_getElem hlt⟩, by omega, fun x H3 y => ?_⟩
    obtain ⟨rfl, y⟩ := y
    have ex : ∀ (zs : List V) (H5 : Hp), (∃ m', m' < xs.length - i ∧ m' = xs.length - (i + 1) ∧ i + 1 ≤ xs.length ∧ W (i + 1) zs H5) = W (i + 1) zs H5 := fun zs H5 =>
      propext ⟨fun ⟨m', _, _, _, h⟩ => h, fun h => ⟨xs.length - (i + 1), by omega, rfl, hlt, h⟩⟩
    simp only [ex]
    exact hE i x ys _ (y xs q) w
  · have : i = xs.length := by omega
    subst this
    exact .inl ⟨⟨xs, q, Nat.le_refl _⟩, fun D hD => hQ ys D H2 _ w hD (same_new hD) upd_same⟩
theorem lcWt {a : Addr} {xs : List V} (W : Nat → List V → Hp → Prop) (hz : xs.length ≤ sizeLine) (h0 : W 0 [] H) (hl : ∀ i ys H', W i ys H' → SqT K H' a xs ∧ ys.length = i)
    (hE : ∀ i v ys H', xs[i]? = some v → W i ys H' → te (some v :: pick ix σ) H' fun y H5 => W (i + 1) (ys ++ [y]) H5)
    (hQ : ∀ ys p H' H1, W xs.length ys H' → H' p = none → Same H' H1 → H1 p = some (.lst ys) → Q (.ref p) H1) : LcW (Itt K a) ix σ tYes te Q H :=
  lcWtf W hz h0 (fun i ys H' w => ⟨(hl i ys H' w).1, Nat.le_of_eq (hl i ys H' w).2⟩) (fun i v ys H' hv w => by
    show (fun b H4 => if b = true then te (some v :: pick ix σ) H4 fun y H5 => W (i + 1) (ys ++ [y]) H5 else W (i + 1) ys H4) true H'
    exact hE i v ys H' hv w) hQ
end
end L2

set_option Elab.async false
set_option linter.all false
set_option maxRecDepth 100000
set_option maxHeartbeats 4000000
namespace L2
open PySem PySem.Spec PyProof.Rows
section
variable {X : Cx} {K : PySem.W.Frag} {σ : St} {H : Hp} {Q : VK}
/-! ### set(a list of whole numbers), some of them alike -/
def distN (ns : List Int) : Nat := (ns.foldl step_dedup []).length
theorem dedup_le : ∀ (ns σ : List Int), (ns.foldl step_dedup σ).length ≤ σ.length + ns.length
  | [], σ => Nat.le_refl _
  | n :: ns, σ => by
    rw [List.foldl_cons]
    refine Nat.le_trans (dedup_le ns _) ?_
    unfold step_dedup
    split
    · rw [List.length_cons]; omega
    · rw [List.length_append, List.length_cons, List.length_cons, List.length_nil]; omega
theorem dedup_full : ∀ (ns σ : List Int), σ.Nodup → (ns.foldl step_dedup σ).length = σ.length + ns.length → (σ ++ ns).Nodup
  | [], σ, h, _ => by rw [List.append_nil]; exact h
  | n :: ns, σ, h, e => by
    rw [List.foldl_cons] at e
    by_cases c : σ.any (· == n) = true
    · rw [show step_dedup σ n = σ from if_pos c, List.length_cons] at e
      have := dedup_le ns σ
      omega
    · rw [show step_dedup σ n = σ ++ [n] from if_neg c] at e
      have hn : n ∉ σ := fun m => c (List.any_eq_true.mpr ⟨n, m, by simp⟩)
      have := dedup_full ns (σ ++ [n]) (by
        rw [List.nodup_append]
        refine ⟨h, by simp, fun a ha b hb => ?_⟩
        rw [List.mem_singleton.mp hb]
        exact fun z => hn (z ▸ ha)) (by rw [e, List.length_append, List.length_cons, List.length_cons, List.length_nil]; omega)
      rw [List.append_assoc] at this
      exact this
theorem distN_iff (ns : List Int) : distN ns = ns.length ↔ ns.Nodup := by
  constructor
  · intro h
    have := dedup_full ns [] List.nodup_nil (by rw [List.length_nil, Nat.zero_add]; exact h)
    exact this
  · intro h
    unfold distN
    rw [dedup_nodup ns [] h]
    rfl
theorem distN_le (ns : List Int) : distN ns ≤ ns.length := by
  have := dedup_le ns []
  rw [List.length_nil, Nat.zero_add] at this
  exact this
def rSetG (K : PySem.W.Frag) : List V → Hp → VK → Prop := fun xs H Q => ∃ (p : Addr) (ns : List Int), xs = [.ref p] ∧ SqL K H p (ns.map V.int) ∧ ns.length < 4000 ∧ ∀ S l H1, H l = none → Same H H1 → H1 l = some (.set S (distN ns)) → Q (.ref l) H1
theorem c_setG (hc : X.calm = true := by rfl) : CallR X (.type "set") (rSetG X.K) := by
  intro pins s σ H xs us Q I r h
  obtain ⟨p, ns, rfl, hp, hl, q⟩ := h
  obtain ⟨u, rfl, ru⟩ := vals1 r
  cases (show u = Value.ref p from ru)
  obtain ⟨its, r', pl, _⟩ := I.list hp
  have hlen : its.length = ns.length := by rw [r'.len, List.length_map]
  refine PySem.call_set_list (items := its.toArray) (ns := ns) (I.ok.hd hc) pl.isList (L2.intsAre_of r') (by rw [List.size_toArray, hlen]; unfold scanBound; omega) fun h' tk hS hk => ?_
  rw [show its.toArray.size = ns.length by rw [List.size_toArray, hlen]] at hS
  have e : firstMet (fun i => ns.getD i 0) ns.length = ns.foldl step_dedup [] := by
    unfold firstMet
    rw [range_getD]
  rw [e] at hS
  exact ⟨.ref s.heap.objs.size, _, I.laid (o := .set _ (distN ns)) (t' := tk) (fun b u hb => hk b u (Heap.lt_size hb) hb) (Nat.le_refl _) hS, rfl, q _ _ _ I.fresh (same_new I.fresh) upd_same⟩
theorem rd_setG {p : Addr} (ns : List Int) (h1 : SqL K H p (ns.map V.int)) (h2 : ns.length < 4000) (q : ∀ S l H1, H l = none → Same H H1 → H1 l = some (.set S (distN ns)) → Q (.ref l) H1) : rSetG K [.ref p] H Q := ⟨p, ns, rfl, h1, h2, q⟩
end
/-! ### what a text is split into -/
theorem glue_mem {c : Nat} : ∀ {as : List (List Nat)} {a : List Nat}, a ∈ as → a.length ≤ (glue c as).length
  | [b], a, h => by rw [List.mem_singleton.mp h]; exact Nat.le_refl _
  | b :: d :: as, a, h => by
    show a.length ≤ (b ++ c :: glue c (d :: as)).length
    rw [List.length_append, List.length_cons]
    rcases List.mem_cons.mp h with e | e
    · rw [e]; omega
    · have := glue_mem (c := c) e
      omega
theorem split_glue (x : Str) (c : Nat) : glue c ((Txt.split x ⟨#[c]⟩).map fun z => z.cps.toList) = x.cps.toList := by rw [← join_glue, StrLaws.join_split]
theorem split_word {x z : Str} {c : Nat} (h : z ∈ Txt.split x ⟨#[c]⟩) : z.length ≤ x.length := by
  rw [len_list, len_list, ← split_glue x c]
  exact glue_mem (List.mem_map.mpr ⟨z, h, rfl⟩)
theorem splitN_le (x y : Str) : (Txt.split x y).length ≤ x.length + 2 := split_le x y
theorem splitN_pos (x y : Str) : 1 ≤ (Txt.split x y).length := split_pos x y
theorem split_cons (x : Str) (c : Nat) : ∃ y ys, Txt.split x ⟨#[c]⟩ = y :: ys := by
  have hp := split_pos x ⟨#[c]⟩
  cases h : Txt.split x ⟨#[c]⟩ with
  | nil => rw [h] at hp; exact absurd hp (by simp)
  | cons y ys => exact ⟨y, ys, rfl⟩
end L2

set_option Elab.async false
set_option linter.all false
set_option maxRecDepth 100000
set_option maxHeartbeats 4000000
namespace L2
open PySem PySem.Spec PyProof.Rows
/-! ### an exception in flight: its object, its own dict, the newest row of its trace -/
def FlyT (h : Heap) (ea T : Addr) (cls : Value) (dc : Option Addr) : Prop := ∃ oe vs oT ts, h.get? ea = some oe ∧ oe.cls = cls ∧ oe.dict = dc ∧ oe.data = .fields vs ∧ vs[1]? = some (.ref T) ∧ T ≠ ea ∧ h.get? T = some oT ∧ oT.data = .fields ts ∧ ts[3]? = some .none
/-- what a change by a flight leaves: all but the exception, the newest row and the frames, of which the slots may change -/
structure Flown (fs : List Addr) (ea T : Addr) (h h' : Heap) : Prop where
  keep : ∀ b o, h.get? b = some o → b ≠ ea → b ≠ T → b ∉ fs → h'.get? b = some o
  slot : ∀ b o, h.get? b = some o → b ∈ fs → ∃ sl, h'.get? b = some { o with slots := sl }
theorem mapF_dict (f : Array Value → Array Value) (o : Obj) : (Obj.mapFields f o).dict = o.dict := by
  unfold Obj.mapFields
  split <;> rfl
section
variable {M : Model} {A : Around} {E : Value → Shared → Prop} {s : Shared} {Q : Unit → Shared → Prop} {env : Env} {outer : List Env} {base : Heap} {L ea T : Addr}
/-- a frame holds no record -/
theorem frame_no {l : List Env} {b : Addr} {o : Obj} {vs : Array Value} (hl : s.heap.FunFrames base l) (e : s.heap.get? b = some o) (d : o.data = .fields vs) : b ∉ frs l := fun hm => by
  obtain ⟨_, o2, ho2, hn2⟩ := hl.mem hm
  rw [e] at ho2
  cases ho2
  exact hn2 vs d
/-- a row is made and put ahead of the trace -/
theorem fly_row {oe : Obj} {vs : Array Value} {hd : Value} {b : Bool} (hfr : A.frames = some (env :: outer)) (hf : env.frame = some L) (hl : s.heap.FunFrames base (env :: outer))
    (he : s.heap.get? ea = some oe) (hv : oe.data = .fields vs) (hz : 1 < vs.size)
    (hQ : ∀ h1 T1 oT ts, s.heap.get? T1 = none → T1 ≠ ea → h1.get? ea = some (Obj.mapFields (·.setIfInBounds 1 (.ref T1)) oe) → h1.get? T1 = some oT → oT.data = .fields ts → 3 < ts.size → (∀ c o, s.heap.get? c = some o → c ≠ ea → c ∉ frs (env :: outer) → h1.get? c = some o) →
      (∀ c o, s.heap.get? c = some o → c ∈ frs (env :: outer) → ∃ sl, h1.get? c = some { o with slots := sl }) → Q () { s with heap := h1 }) :
    wpAny M A (do let x ← frameOf env; let pl ← entryPlaceOf L b; let y ← EntryCells.newEntry hd x .none (rawInt L) .none pl; setField (.ref ea) 1 y) Q E s := by
  refine wpAny_bind (wpAny_frameOf_fun hfr hl hf fun h0 so => ?_)
  refine wpAny_bind (wpAny_entryPlaceOf fun pl hpl => ?_)
  unfold EntryCells.newEntry newFields
  refine wpAny_bind (wpAny_newObj_type ?_ (hpl.sizeOk5 _ _ _ _ _))
  have hnf : ea ∉ frs (env :: outer) := frame_no hl he hv
  have e0 : h0.get? ea = some oe := (so.2.1 ea hnf).trans he
  obtain ⟨ot, hot⟩ : ∃ ot : Obj, ot = { cls := .type "traceback", dict := none, data := .fields ([hd, .ref L, .none, rawInt L, .none] ++ (if pl.isEmpty then List.replicate 6 Value.none else pl)).toArray } := ⟨_, rfl⟩
  rw [← hot]
  have hne : h0.objs.size ≠ ea := Nat.ne_of_gt (Heap.lt_size e0)
  have e1 : (h0.push ot).get? ea = some oe := Heap.get?_push_of_some _ e0
  refine wpAny_setField e1 hv hz ?_
  have fr : Obj.isFreed (Obj.mapFields (·.setIfInBounds 1 (Value.ref h0.objs.size)) oe) = false := Obj.isFreed_of_fields (Obj.data_mapFields hv _)
  refine hQ _ h0.objs.size ot _ (by rw [so.1]; exact Heap.get?_none_of_le (Nat.le_refl _)) hne (Heap.get?_update_self _ e1 fr) ?_ (by rw [hot]) ?_ (fun c o q n1 n2 => ?_) fun c o q hm => ?_
  · rw [Heap.get?_update_other _ _ (Ne.symm hne)]
    exact Heap.get?_push_size h0 (by rw [hot]; rfl)
  · simp only [List.size_toArray, List.length_append, List.length_cons, List.length_nil]
    omega
  · rw [Heap.get?_update_other _ _ (Ne.symm n1)]
    exact Heap.get?_push_of_some _ ((so.2.1 c n2).trans q)
  · obtain ⟨sl, q1⟩ := so.2.2 c o q
    have hce : ea ≠ c := fun z => hnf (by rw [z]; exact hm)
    exact ⟨sl, by rw [Heap.get?_update_other _ _ hce]; exact Heap.get?_push_of_some _ q1⟩
/-- the flight is noted as over -/
theorem fly_over {oe oT : Obj} {vs ts : Array Value} (he : s.heap.get? ea = some oe) (hv : oe.data = .fields vs) (h1 : vs[1]? = some (.ref T)) (hT : s.heap.get? T = some oT) (hd : oT.data = .fields ts) (hz : 3 < ts.size)
    (hQ : ∀ h1, (∀ c, c ≠ T → h1.get? c = s.heap.get? c) → h1.get? T = some (Obj.mapFields (·.setIfInBounds 3 .none) oT) → Q () { s with heap := h1 }) : wpAny M A (setFlight (.ref ea) none) Q E s := by
  unfold setFlight
  refine wpAny_bind (wpAny_field he hv h1 ?_)
  rw [if_pos (show (Value.ref T != Value.none) = true from by simp)]
  refine wpAny_setField hT hd hz ?_
  exact hQ _ (fun c n => Heap.get?_update_other _ _ (Ne.symm n)) (Heap.get?_update_self _ hT (Obj.isFreed_of_fields (Obj.data_mapFields hd _)))
/-- a row put ahead, then over -/
theorem fly_both {oe : Obj} {vs : Array Value} {hd cls : Value} {dc : Option Addr} {b : Bool} (hfr : A.frames = some (env :: outer)) (hf : env.frame = some L) (hl : s.heap.FunFrames base (env :: outer))
    (he : s.heap.get? ea = some oe) (hc : oe.cls = cls) (hdc : oe.dict = dc) (hv : oe.data = .fields vs) (hz : 1 < vs.size)
    (hQ : ∀ h1 T1, FlyT h1 ea T1 cls dc → s.heap.get? T1 = none → (∀ c o, s.heap.get? c = some o → c ≠ ea → c ∉ frs (env :: outer) → h1.get? c = some o) →
      (∀ c o, s.heap.get? c = some o → c ∈ frs (env :: outer) → ∃ sl, h1.get? c = some { o with slots := sl }) → Q () { s with heap := h1 }) :
    wpAny M A (do let x ← frameOf env; let pl ← entryPlaceOf L b; let y ← EntryCells.newEntry hd x .none (rawInt L) .none pl; setField (.ref ea) 1 y) (fun _ s1 => wpAny M A (setFlight (.ref ea) none) Q E s1) E s := by
  refine fly_row hfr hf hl he hv hz fun h1 T1 oT ts n0 n1 g1 g2 g3 g4 k1 k2 => ?_
  have d1 := Obj.data_mapFields hv (·.setIfInBounds 1 (Value.ref T1))
  refine fly_over (s := { s with heap := h1 }) g1 d1 (T := T1) (by simp [hz]) g2 g3 g4 fun h2 o2 t2 => ?_
  refine hQ h2 T1 ⟨_, _, _, _, (o2 _ (Ne.symm n1)).trans g1, by rw [Obj.cls_mapFields]; exact hc, by rw [mapF_dict]; exact hdc, d1, by simp [hz], n1, t2, Obj.data_mapFields g3 _, by simp [g4]⟩ n0 (fun c o q a1 a2 => ?_) fun c o q hm => ?_
  · exact (o2 c (fun z => by rw [z, n0] at q; cases q)).trans (k1 c o q a1 a2)
  · obtain ⟨sl, q1⟩ := k2 c o q hm
    exact ⟨sl, (o2 c (fun z => by rw [z, n0] at q; cases q)).trans q1⟩
/-- the newest row is no longer in flight; then a new one, over too -/
theorem fly_next {cls : Value} {dc : Option Addr} (hfr : A.frames = some (env :: outer)) (hf : env.frame = some L) (hl : s.heap.FunFrames base (env :: outer))
    (F : FlyT s.heap ea T cls dc) (hQ : ∀ h' T', FlyT h' ea T' cls dc → (T' = T ∨ s.heap.get? T' = none) → Flown (frs (env :: outer)) ea T s.heap h' → Q () { s with heap := h' }) :
    wpAny M A (noteFrame (.ref ea) env) (fun _ s1 => wpAny M A (setFlight (.ref ea) none) Q E s1) E s := by
  obtain ⟨oe, vs, oT, ts, he, hc, hdc, hv, h1, hTe, hT, hdT, h3⟩ := F
  have z3 : 3 < ts.size := (Array.getElem?_eq_some_iff.mp h3).1
  unfold noteFrame
  simp only [hf]
  refine wpAny_bind (wpAny_field he hv h1 ?_)
  rw [if_pos (show (Value.ref T != Value.none) = true from by simp)]
  refine wpAny_bind (wpAny_field hT hdT h3 ?_)
  rw [if_neg (show ¬ ((Value.none == rawInt L) = true) from by simp [rawInt])]
  refine wpAny_bind (wpAny_setField hT hdT z3 ?_)
  have ot : ∀ c, c ≠ T → (s.heap.update T (Obj.mapFields (·.setIfInBounds 3 Value.none))).get? c = s.heap.get? c := fun c n => Heap.get?_update_other _ _ (Ne.symm n)
  have sT : (s.heap.update T (Obj.mapFields (·.setIfInBounds 3 Value.none))).get? T = some (Obj.mapFields (·.setIfInBounds 3 Value.none) oT) := Heap.get?_update_self _ hT (Obj.isFreed_of_fields (Obj.data_mapFields hdT _))
  have hTf : T ∉ frs (env :: outer) := frame_no hl hT hdT
  have hl1 : (s.heap.update T (Obj.mapFields (·.setIfInBounds 3 Value.none))).FunFrames base (env :: outer) := hl.of_keeps fun c o q hn => ⟨o, (ot c (fun z => by rw [z, hT] at q; cases q; exact hn _ hdT)).trans q, rfl⟩
  refine fly_both (s := { s with heap := s.heap.update T (Obj.mapFields (·.setIfInBounds 3 Value.none)) }) hfr hf hl1 ((ot ea (Ne.symm hTe)).trans he) hc hdc hv (Array.getElem?_eq_some_iff.mp h1).1 fun h2 T2 F2 n2 k1 k2 => ?_
  refine hQ h2 T2 F2 (.inr ?_) ⟨fun c o q a1 a2 a3 => k1 c o ((ot c a2).trans q) a1 a3, fun c o q hm => k2 c o ((ot c (fun z => hTf (by rw [← z]; exact hm))).trans q) hm⟩
  by_cases z : T2 = T
  · subst z; rw [sT] at n2; cases n2
  · rw [← ot T2 z]; exact n2
theorem fly_leave {cls : Value} {dc : Option Addr} (hfr : A.frames = some (env :: outer)) (hf : env.frame = some L) (hl : s.heap.FunFrames base (env :: outer))
    (F : FlyT s.heap ea T cls dc) (hQ : ∀ h' T', FlyT h' ea T' cls dc → (T' = T ∨ s.heap.get? T' = none) → Flown (frs (env :: outer)) ea T s.heap h' → Q () { s with heap := h' }) : wpAny M A (leaving env (.ref ea)) Q E s :=
  wpAny_bind (fly_next hfr hf hl F hQ)
/-- the first frame that it leaves -/
theorem fly_first {oe : Obj} {t0 : Value} {r : List Value} {cls : Value} {dc : Option Addr} (hfr : A.frames = some (env :: outer)) (hf : env.frame = some L) (hl : s.heap.FunFrames base (env :: outer))
    (he : s.heap.get? ea = some oe) (hc : oe.cls = cls) (hdc : oe.dict = dc) (hv : oe.data = .fields (t0 :: Value.none :: r).toArray)
    (hQ : ∀ h' T', FlyT h' ea T' cls dc → s.heap.get? T' = none → Flown (frs (env :: outer)) ea ea s.heap h' → Q () { s with heap := h' }) : wpAny M A (leaving env (.ref ea)) Q E s := by
  unfold leaving noteFrame
  simp only [hf]
  refine wpAny_bind (wpAny_bind (wpAny_field he hv (x := .none) (by simp) ?_))
  rw [if_neg (by decide)]
  exact fly_both hfr hf hl he hc hdc hv (by simp) fun h1 T1 F1 n1 k1 k2 => hQ h1 T1 F1 n1 ⟨fun c o q a1 _ a3 => k1 c o q a1 a3, k2⟩
end
end L2

set_option Elab.async false
set_option linter.all false
set_option maxRecDepth 100000
set_option maxHeartbeats 4000000
namespace L2
open PySem PySem.Spec PyProof.Rows
theorem ObjOk.some {P : Program} {w : World} {H : Hp} {h : Heap} {a : Addr} {o : HO} (x : ObjOk P w H h a o) : ∃ ob, h.get? a = Option.some ob := by
  cases o with
  | lst xs => obtain ⟨_, _, _, _, e⟩ := x; exact ⟨_, e⟩
  | tup xs => obtain ⟨_, _, _, ob, e, _⟩ := x; exact ⟨_, e⟩
  | dK kvs => obtain ⟨_, _, _, _, o, _, _, e, _⟩ := x; exact ⟨_, e⟩
  | dT kvs => obtain ⟨_, _, _, _, o, _, _, e, _⟩ := x; exact ⟨_, e⟩
  | set S n => obtain ⟨o, _, _, _, e, _⟩ := x; exact ⟨_, e⟩
  | ins C dx fs => obtain ⟨_, _, _, e, _⟩ := x; exact ⟨_, e⟩
  | own y => obtain ⟨_, e⟩ := x; exact ⟨_, e⟩
  | xd fs => obtain ⟨_, ⟨_, _, _, e, _⟩, _⟩ := x; exact ⟨_, e⟩
  | rng lo hi => obtain ⟨_, _, _, e⟩ := x; exact ⟨_, e⟩
  | frz ob u => obtain ⟨e, _⟩ := x; exact ⟨_, e⟩
  | tbl ps => exact ⟨_, (show h.get? a = Option.some _ from x)⟩
  | met f y => exact ⟨_, (show h.get? a = Option.some _ from x)⟩
  | ext φ => obtain ⟨_, ⟨_, e⟩, _⟩ := x; exact ⟨_, e⟩
theorem HOk.none_of {P : Program} {w : World} {H : Hp} {h : Heap} {a : Addr} (x : HOk P w H h) (e : h.get? a = none) : H a = none := by
  cases q : H a with
  | none => rfl
  | some u =>
    obtain ⟨ob, e'⟩ := (x a u q).some
    rw [e] at e'
    cases e'
theorem HOk.flown {P : Program} {w : World} {H : Hp} {h h' : Heap} {fs : List Addr} {ea T : Addr} (x : HOk P w H h) (F : Flown fs ea T h h') (n1 : H ea = none) (n2 : H T = none) (n3 : ∀ b ∈ fs, H b = none) : HOk P w H h' := fun a o e => by
  have go : ∀ b u v, H b = some v → h.get? b = some u → h'.get? b = some u := fun b u v q r => F.keep b u r (ne_of_none q n1) (ne_of_none q n2) fun z => by rw [n3 b z] at q; cases q
  refine (x a o e).stay (fun b u hb q => ?_) (fun _ q => q) fun _ _ q => q
  rcases hb with rfl | hb
  · exact go b u o e q
  · exact go b u _ hb q
theorem Un.flown {fs : List Addr} {H H1 : Hp} {h0 h h' : Heap} {ea T L : Addr} (u : Un fs [] H H1 h0 h) (F : Flown (L :: fs) ea T h h') (hea : h0.get? ea = none) (hT : h0.get? T = none) (hL : h0.get? L = none) : Un fs [] H H1 h0 h' := by
  have ne : ∀ b o c, h0.get? b = some o → h0.get? c = none → b ≠ c := fun b o c e n z => by rw [z, n] at e; cases e
  refine ⟨fun b o e n hb hx => ?_, fun b o e n hb hx => ?_, u.free, fun b o e hx => ?_, u.tups, u.frzs, u.tbls⟩
  · exact F.keep b o (u.keep b o e n hb hx) (ne b o ea e hea) (ne b o T e hT) fun z => by
      rcases List.mem_cons.mp z with z | z
      · exact ne b o L e hL z
      · exact hb z
  · obtain ⟨sl, e1⟩ := u.slot b o e n hb hx
    obtain ⟨sl', e2⟩ := F.slot b _ e1 (List.mem_cons_of_mem _ hb)
    exact ⟨sl', e2⟩
  · obtain ⟨o1, e1⟩ := u.there b o e hx
    by_cases hm : b ∈ L :: fs
    · obtain ⟨sl, e2⟩ := F.slot b o1 e1 hm
      exact ⟨_, e2⟩
    · exact ⟨o1, F.keep b o1 e1 (ne b o ea e hea) (ne b o T e hT) hm⟩
/-- how an exception lies behind a call -/
def CXE (P : Program) (w : World) : CXT := fun outer H s E e s' => ∃ (ea T : Addr) (cls : Value) (dc : Option Addr) (H' : Hp), e = .ref ea ∧ s'.os = s.os ∧ AllBare s'.gens ∧ Un (frs outer) [] H H' s.heap s'.heap ∧ HOk P w H' s'.heap ∧ FlyT s'.heap ea T cls dc ∧
  s.heap.get? ea = none ∧ s.heap.get? T = none ∧ H' ea = none ∧ H' T = none ∧ E cls dc H'
section
variable {P : Program} {w : World} {K : PySem.W.Frag} {mg : Str → Option Value} {base : Heap} {N : List Str} {q : Str} {sc : Scope} {f : Addr} {cd : Value} {A : Around} {outer : List Env} {s₀ : Shared} {H₀ : Hp} {E : XK}
/-- what was not there at the entry -/
theorem Inv.new0 {X : Cx} {pins : List (Addr × Obj)} {σ : St} {H : Hp} {s : Shared} (I : Inv X pins σ H s) (hx : X.ex = []) {b : Addr} (e : s.heap.get? b = none) : X.s₀.heap.get? b = none := by
  cases r : X.s₀.heap.get? b with
  | none => rfl
  | some o =>
    obtain ⟨o', e'⟩ := I.base.there b o r (by rw [hx]; simp)
    rw [e] at e'
    cases e'
/-- raised here: it leaves the def -/
theorem raised_here {pins : List (Addr × Obj)} {σ : St} {H : Hp} {s : Shared} {ea : Addr} {oe : Obj} {t0 cls : Value} {r : List Value} {dc : Option Addr} (I : Inv (cxOf (CXE P w) P w K mg base N q sc f cd A outer s₀ H₀ E) pins σ H s) (he : s.heap.get? ea = some oe) (hc : oe.cls = cls) (hdc : oe.dict = dc)
    (hv : oe.data = .fields (t0 :: Value.none :: r).toArray) (nea : H ea = none) (n0 : s₀.heap.get? ea = none) (hE : E cls dc H) :
    (cxOf (CXE P w) P w K mg base N q sc f cd A outer s₀ H₀ E).xe (.ref ea) s := by
  show wpAny (model P w) _ (leaving _ (.ref ea)) (fun _ s'' => CXE P w outer H₀ s₀ E (.ref ea) s'') _ _
  refine fly_first I.ok.frames rfl I.stack he hc hdc hv fun h' T' F hT' Fl => ?_
  have nT : H T' = none := I.hok.none_of hT'
  have nL : s₀.heap.get? s₀.heap.objs.size = none := Heap.get?_none_of_le (Nat.le_refl _)
  exact ⟨ea, T', cls, dc, H, rfl, I.os, I.bare, I.base.flown Fl n0 n0 nL, I.hok.flown Fl nea nea I.stkFree, F, n0, I.new0 rfl hT', nea, nT, hE⟩
/-- one that comes out of a call: it leaves the def, too -/
theorem passes_on {EE : XK} (hEE : ∀ cls a H, EE cls a H → E cls a H) : Passes (CXE P w) (cxOf (CXE P w) P w K mg base N q sc f cd A outer s₀ H₀ E) EE := by
  intro pins σ H s e s' I h
  obtain ⟨ea, T, cls, dc, H', rfl, os, bare, un, hok, F, hea, hT, nea, nT, hE⟩ := h
  obtain ⟨hh, g, d, t, os'⟩ := s'
  obtain rfl : os' = s.os := os
  have I1 : Inv (cxOf (CXE P w) P w K mg base N q sc f cd A outer s₀ H₀ E) pins σ H' ⟨hh, g, d, t, s.os⟩ := I.call (h' := hh) (g' := g) (d' := d) (t' := t) (ch := []) un hok bare (fun b z => absurd z (by simp))
  show wpAny (model P w) _ (leaving _ (.ref ea)) (fun _ s'' => CXE P w outer H₀ s₀ E (.ref ea) s'') _ _
  refine fly_leave (s := ⟨hh, g, d, t, s.os⟩) I1.ok.frames rfl I1.stack F fun h' T' F' hT' Fl => ?_
  have nL : s₀.heap.get? s₀.heap.objs.size = none := Heap.get?_none_of_le (Nat.le_refl _)
  have e1 := I.new0 rfl hea
  have e2 := I.new0 rfl hT
  have e3 : s₀.heap.get? T' = none := by
    rcases hT' with rfl | z
    · exact e2
    · exact I1.new0 rfl z
  have n3 : H' T' = none := by
    rcases hT' with rfl | z
    · exact nT
    · exact hok.none_of z
  exact ⟨ea, T', cls, dc, H', rfl, I1.os, bare, I1.base.flown Fl e1 e2 nL, hok.flown Fl nea nT I1.stkFree, F', e1, e3, nea, n3, hEE _ _ _ hE⟩
end
end L2

set_option Elab.async false
set_option linter.all false
set_option maxRecDepth 100000
set_option maxHeartbeats 4000000
namespace L2
open PySem PySem.Spec PyProof.Rows
abbrev veMro : List Value := [.type "ValueError", .type "Exception", .type "BaseException", .type "object"]
/-- an own error class without an __init__ of its own, under ValueError -/
structure ExC (K : PySem.W.Frag) (mg : Str → Option Value) (x : Str) (C : Addr) : Prop where
  mgx : mg x = some (.ref C)
  ei : PySem.W.excIn K C veMro "ValueError.__new__" = true
/-- an exception that was made here leaves: its class, its own dict, the heap -/
def Throws (X : Cx) (E : XK) : Prop := ∀ (pins : List (Addr × Obj)) (σ : St) (H H0 : Hp) (s s0 : Shared) (ea : Addr) (oe : Obj) (t0 cls : Value) (r : List Value) (dc : Option Addr), Inv X pins σ H s → Inv X pins σ H0 s0 → s0.heap.get? ea = none → s.heap.get? ea = some oe → oe.cls = cls → oe.dict = dc → oe.data = .fields (t0 :: Value.none :: r).toArray → H ea = none → E cls dc H → X.xe (.ref ea) s
theorem throws_of {P : Program} {w : World} {K : PySem.W.Frag} {mg : Str → Option Value} {base : Heap} {N : List Str} {q : Str} {sc : Scope} {f : Addr} {cd : Value} {A : Around} {outer : List Env} {s₀ : Shared} {H₀ : Hp} {E : XK} : Throws (cxOf (CXE P w) P w K mg base N q sc f cd A outer s₀ H₀ E) E :=
  fun _ _ _ _ _ _ _ _ _ _ _ _ I I0 n he hc hdc hv nea hE => raised_here I he hc hdc hv nea (I0.new0 rfl n) hE
section
variable {X : Cx} {x : Str} {C : Addr} {E : XK} {e : Expr} {es : List Expr} {t : TA} {np cpos pos : Pos} {K : PySem.W.Frag} {σ : St} {H : Hp} {D : Ends}
def mkR (E : XK) (C : Addr) (vs : List V) (H : Hp) : Prop := vs.length ≤ sizeLine ∧ E (.ref C) none H
def tRaise (E : XK) (C : Addr) (t : TA) : TS := fun _ σ H => t σ H fun vs H1 => mkR E C vs H1
end
end L2

set_option Elab.async false
set_option linter.all false
set_option maxRecDepth 100000
set_option maxHeartbeats 4000000
namespace L2
open PySem PySem.Spec PyProof.Rows
section
variable {P : Program} {w : World} {K : PySem.W.Frag} {mg : Str → Option Value} {base : Heap}
/-- a def that may raise -/
theorem Fun.okE {x qual : Str} {st : Stmt} {f : Addr} {fd : FuncData} {N ps : List Str} {k : Nat} {sp : Sp} (F : Fun K x qual st f fd) (S : FnScope N ps (defScope st)) (len : ∀ vs H Q E, sp vs H Q E → vs.length = ps.length)
    (hbody : ∀ (cdv : Value) (A : Around) (outer : List Env) (s : Shared) (H : Hp) (vs : List V) (Q : VK) (E : XK), Room k (A.deeper (envOfC qual (defScope st) s.heap.objs.size f cdv)) → sp vs H Q E →
      ∃ t, BSs (cxOf (CXE P w) P w K mg base N qual (defScope st) f cdv A outer s H E) (defBody st) t ∧ t { nx := fun _ H' => Q .non H', rt := Q } (start N vs) H) : FnOk P w K mg base (CXE P w) (k + 1) f fd ps sp := by
  obtain ⟨oc, od, kV, doc, pm, an, cdv, ct, osl, rfl, lk, hcd⟩ := F.ex
  refine fn_of lk hcd S len fun A outer s H vs Q E hr hsp => ?_
  obtain ⟨t, h, q⟩ := hbody cdv A outer s H vs Q E hr hsp
  exact ⟨t, h.h, q⟩
end
section
variable {X : Cx} {x : Str} {sf : Stmt} {ps : List Str} {f : Addr} {fd : FuncData} {k : Nat} {sp : Sp} {e : Expr} {es : List Expr} {t : TA} {p pos : Pos} {E : XK}
/-- a call of such a def; E: what is wanted of what it raises -/
theorem b_fE (hx : Passes (CXE X.prog X.w) X E) (N : Fn X.K X.mg x sf ps f fd) (G : FnOk X.prog X.w X.K X.mg X.base (CXE X.prog X.w) k f fd ps sp) (hr : Room k X.A) (ha : BA X (e :: es) t) (hg : Gl X x := by rfl) (hdb : (x == ("__debug__" : Str)) = false := by decide) (h1 : isStar e = false := by rfl) (h2 : noStar es = true := by rfl) :
    BE X (.Call (.Name x p) (e :: es) [] pos) (tCall sp [] E t) := ⟨pe_call G hr hg N.mgx N.fu.kp N.bd .nil hx ha.h hdb (star_cons h1) (star_any h2)⟩
end
end L2

set_option Elab.async false
set_option linter.all false
set_option maxRecDepth 100000
set_option maxHeartbeats 4000000
namespace L2
open PySem PySem.Spec PyProof.Rows
/-- the frame's own state behind a flight -/
theorem Inv.flown {X : Cx} {pins : List (Addr × Obj)} {σ : St} {H : Hp} {s : Shared} {h' : Heap} {ea T : Addr} {t' : Nat} (I : Inv X pins σ H s) (Fl : Flown (frs X.stack) ea T s.heap h') (nea : X.s₀.heap.get? ea = none) (nT : X.s₀.heap.get? T = none) (n1 : H ea = none) (n2 : H T = none)
    (p1 : ∀ p ∈ X.pn ++ pins, p.1 ≠ ea ∧ p.1 ≠ T) (l1 : ea ≠ X.env.locals ∧ T ≠ X.env.locals) (c1 : ∀ x c, X.env.cells.lookup x = some c → c ≠ ea ∧ c ≠ T) : Inv X pins σ H { s with heap := h', toks := t' } := by
  have sub : ∀ b, b ∉ X.fs → b ≠ X.env.locals → b ∉ frs X.stack := fun b h1 h2 z => (List.mem_cons.mp (I.stkSub b z)).elim h2 h1
  have any : ∀ b o, s.heap.get? b = some o → b ≠ ea → b ≠ T → ∃ sl, h'.get? b = some { o with slots := sl } := fun b o e m1 m2 => by
    by_cases hm : b ∈ frs X.stack
    · exact Fl.slot b o e hm
    · exact ⟨o.slots, Fl.keep b o e m1 m2 hm⟩
  have ne : ∀ b o c, X.s₀.heap.get? b = some o → X.s₀.heap.get? c = none → b ≠ c := fun b o c e n z => by rw [z, n] at e; cases e
  have neL : ∀ b o, X.s₀.heap.get? b = some o → b ≠ X.env.locals := fun b o e => Nat.ne_of_lt (Nat.lt_of_lt_of_le (Heap.lt_size e) I.ok.above)
  have cellK : ∀ x c, X.env.cells.lookup x = some c → ∀ v, s.heap.IsCell c v → h'.IsCell c v := fun x c e v ⟨o, ho, hd⟩ => by
    obtain ⟨sl, q⟩ := any c o ho (c1 x c e).1 (c1 x c e).2
    exact ⟨_, q, hd⟩
  refine ⟨I.ok, I.os, I.bare, ⟨fun b o e n hb hx => ?_, fun b o e n hb hx => ?_, I.base.free, fun b o e hx => ?_, I.base.tups, I.base.frzs, I.base.tbls⟩, ?_, fun x c e => ?_, I.free, I.freeC, fun p hp => ?_, I.hok.flown Fl n1 n2 I.stkFree, I.len⟩
  · exact Fl.keep b o (I.base.keep b o e n hb hx) (ne b o ea e nea) (ne b o T e nT) (sub b hb (neL b o e))
  · obtain ⟨sl, e1⟩ := I.base.slot b o e n hb hx
    obtain ⟨sl', e2⟩ := any b _ e1 (ne b o ea e nea) (ne b o T e nT)
    exact ⟨sl', e2⟩
  · obtain ⟨o1, e1⟩ := I.base.there b o e hx
    obtain ⟨sl, e2⟩ := any b o1 e1 (ne b o ea e nea) (ne b o T e nT)
    exact ⟨_, e2⟩
  · obtain ⟨m, ⟨o, es, ep, ho, r⟩, hl⟩ := I.loc
    obtain ⟨sl, e2⟩ := any _ o ho (Ne.symm l1.1) (Ne.symm l1.2)
    refine ⟨m, ⟨_, es, ep, e2, r⟩, fun i x v e1 e2 e3 => ?_⟩
    obtain ⟨u, r, l⟩ := hl i x v e1 e2 e3
    refine ⟨u, r, ?_⟩
    rcases l with l | ⟨k, c, e, z⟩
    · exact .inl l
    · exact .inr ⟨k, c, e, cellK x c e _ z⟩
  · obtain ⟨v, z⟩ := I.cell x c e
    exact ⟨v, cellK x c e v z⟩
  · obtain ⟨e, n, m1, m2, d⟩ := I.pin p hp
    exact ⟨Fl.keep p.1 p.2 e (p1 p hp).1 (p1 p hp).2 (sub p.1 m2 m1), n, m1, m2, d⟩
/-- the same context within an except suite: e is being handled -/
def Cx.held (X : Cx) (e : Value) (E : Value → Shared → Prop) : Cx := { X with A := X.A.mark (some e), calm := false, xe := E }
theorem Inv.held {X : Cx} {pins : List (Addr × Obj)} {σ : St} {H : Hp} {s : Shared} (I : Inv X pins σ H s) (e : Value) (E : Value → Shared → Prop) : Inv (X.held e E) pins σ H s :=
  ⟨⟨I.ok.mod, I.ok.kind, I.ok.glob, I.ok.blt, I.ok.above, I.ok.inj, I.ok.has, I.ok.cab, fun h => absurd (show false = true from h) (by decide), I.ok.frames, I.ok.stk, I.ok.exf, I.ok.bs, I.ok.bsz, I.ok.noex, I.ok.exfs, I.ok.funs, I.ok.frf⟩, I.os, I.bare, I.base, I.loc, I.cell, I.free, I.freeC, I.pin, I.hok, I.len⟩
end L2

set_option Elab.async false
set_option linter.all false
set_option maxRecDepth 100000
set_option maxHeartbeats 4000000
namespace L2
open PySem PySem.Spec PyProof.Rows
/-- an object of the class C; of its dict nothing is said -/
def OfCls (h : Heap) (x C : Addr) : Prop := ∃ o, h.get? x = some o ∧ o.cls = .ref C
theorem OfCls.type {M : Model} {h : Heap} {x C : Addr} (I : OfCls h x C) : PySem.W.Looks M h (typeOf (.ref x)) (.ref C) := by
  obtain ⟨o, e, c⟩ := I
  exact c ▸ (PySem.W.Looks.ld e).andThen .now
/-- does an exception of the class C match the class C'? -/
theorem matches_own {P : Program} {w : World} {A : Around} {E : Value → Shared → Prop} {K : PySem.W.Frag} {s : Shared} {e C C' : Addr} {b : Bool} {Q : Bool → Shared → Prop} (X : K.In s.heap) (T : OfCls s.heap e C)
    (hb : PySem.W.kitCls K (.ref C') (.type "BaseException") = some true) (hc : PySem.W.kitCls K (.ref C) (.ref C') = some b) (hq : Q b s) : wpAny (model P w) A (excMatches (.ref e) (.ref C')) Q E s := by
  obtain ⟨hh, g, d, t, os⟩ := s
  obtain ⟨c1, c2, c3⟩ := PySem.W.kit_cls (M := model P w) X hc
  obtain ⟨_, _, c4⟩ := PySem.W.kit_cls (M := model P w) X hb
  have ty := T.type (M := model P w)
  have nt : PySem.W.Looks (model P w) hh (isSubtype (.type "type") (.type "tuple")) false := PySem.W.Looks.of_pure tc_notTuple
  have li : PySem.W.Looks (model P w) hh (isInstance (.ref C') (.type "tuple")) false := c1.andThen nt
  have ec : PySem.W.Looks (model P w) hh (isExcClass (.ref C')) true := c2.andThen c4
  unfold excMatches
  refine wpAny_bind (li.at ?_)
  simp only [Bool.false_eq_true, if_false]
  repeat (first | lk | wp_step)
  cases b <;> (wp_walk; exact hq)
end L2

set_option Elab.async false
set_option linter.all false
set_option maxRecDepth 100000
set_option maxHeartbeats 4000000
namespace L2
open PySem PySem.Spec PyProof.Rows
section
variable {X : Cx} {pins : List (Addr × Obj)} {σ : St} {H : Hp} {s : Shared}
/-- a local name that has a value is unbound -/
theorem unbind_ok {M : Model} {A : Around} {E : Value → Shared → Prop} {i : Nat} {x : Str} {v : V} {Q : Unit → Shared → Prop} (I : Inv X pins σ H s) (hN : X.N.Nodup) (hi : X.N[i]? = some x) (hk : X.env.scope.names.lookup x = some .local) (hv : σ[i]? = some (some v))
    (h : ∀ s', Inv X pins (σ.set i none) H s' → Q () s') : wpAny M A (unbindName X.env x) Q E s := by
  obtain ⟨m, hn, hl⟩ := id I.loc
  have hcls : (X.env.scope.kind == .class || (X.env.scope.kind == .module && X.env.locals != X.env.globals)) = false := by rw [I.ok.kind]; rfl
  have hiσ : i < σ.length := by rw [I.len]; exact (List.getElem?_eq_some_iff.mp hi).1
  have cne := I.cne
  obtain ⟨u0, _, lk⟩ := hl i x v hi hv (.inl hk)
  have hm : m x = some u0 := by
    rcases lk with ⟨_, e⟩ | ⟨k, _⟩
    · exact e
    · have hk' : X.env.kindOf x = some .local := hk
      rw [hk'] at k
      rcases k with k | k <;> cases k
  obtain ⟨oL, _, _, hoL, _⟩ := id hn
  refine wpAny_unbindName_local hk hn hm hcls fun h' u hn' hs => ?_
  have tr : HOk X.prog X.w H h' := fun b ob e => by
    have hfree := I.free
    refine (I.hok b ob e).stay (fun c w' hc q => (hs.2 c ?_).trans q) (fun _ q => q) fun _ _ q => q
    rintro rfl
    rcases hc with rfl | hc
    · rw [hfree] at e; cases e
    · rw [hfree] at hc; cases hc
  refine h _ ⟨I.ok, I.os, I.bare, ⟨fun b o e n hb hx => ?_, fun b o e n hb hx => ?_, I.base.free, fun b o e hx => ?_, I.base.tups, I.base.frzs, I.base.tbls⟩, ⟨_, hn', fun j y v' e1 e2 e3 => ?_⟩, fun y c e => ?_, I.free, I.freeC, fun p hp => ?_, tr, by simpa using I.len⟩
  · exact (hs.2 b (Nat.ne_of_lt (Nat.lt_of_lt_of_le (Heap.lt_size e) I.ok.above))).trans (I.base.keep b o e n hb hx)
  · obtain ⟨sl, e1⟩ := I.base.slot b o e n hb hx
    exact ⟨sl, (hs.2 b (Nat.ne_of_lt (Nat.lt_of_lt_of_le (Heap.lt_size e) I.ok.above))).trans e1⟩
  · obtain ⟨o', e1⟩ := I.base.there b o e hx
    exact ⟨o', (hs.2 b (Nat.ne_of_lt (Nat.lt_of_lt_of_le (Heap.lt_size e) I.ok.above))).trans e1⟩
  · by_cases hj : j = i
    · subst hj
      rw [List.getElem?_set_self hiσ] at e2
      cases e2
    · rw [List.getElem?_set_ne (Ne.symm hj)] at e2
      obtain ⟨u', r', q⟩ := hl j y v' e1 e2 e3
      refine ⟨u', r', ?_⟩
      rcases q with ⟨k, e⟩ | ⟨k, c, e, z⟩
      · refine .inl ⟨k, ?_⟩
        have : y ≠ x := fun e => hj (nodup_ix hN e1 (e ▸ hi))
        simp [this, e]
      · exact .inr ⟨k, c, e, z.sameBut hs (cne y c e)⟩
  · obtain ⟨w', z⟩ := I.cell y c e
    exact ⟨w', z.sameBut hs (cne y c e)⟩
  · obtain ⟨e, n, ne, nf, d⟩ := I.pin p hp
    exact ⟨(hs.2 p.1 ne).trans e, n, ne, nf, d⟩
/-- the name of an except clause goes behind its suite -/
theorem name_goes {M : Model} {A : Around} {E : Value → Shared → Prop} {i : Nat} {x : Str} {pos : Pos} {Q : Unit → Shared → Prop} (I : Inv X pins σ H s) (hN : X.N.Nodup) (hi : X.N[i]? = some x) (hk : X.env.scope.names.lookup x = some .local)
    (h : ∀ s', Inv X pins (σ.set i none) H s' → Q () s') : wpAny M A (do bindName X.env x .none; unbindBehindTheSuite X.env x pos) Q E s := by
  have hiσ : i < σ.length := by rw [I.len]; exact (List.getElem?_eq_some_iff.mp hi).1
  refine wpAny_bind (wpAny_bindName (store_ok (v := .non) I hN hi (.inl hk) rfl (fun s1 I1 => ?_) (.inr hk)))
  unfold unbindBehindTheSuite
  refine wpAny_onRaise (unbind_ok I1 hN hi hk (List.getElem?_set_self hiσ) fun s2 I2 => h s2 ?_)
  rw [List.set_set] at I2
  exact I2
end
end L2

set_option Elab.async false
set_option linter.all false
set_option maxRecDepth 100000
set_option maxHeartbeats 4000000
namespace L2
open PySem PySem.Spec PyProof.Rows
/-! ### a call whose exceptions are wanted at the state where they come -/
def PassesS (CX : CXT) (X : Cx) (EX : St → XK) : Prop := ∀ (pins : List (Addr × Obj)) (σ : St) (H : Hp) (s : Shared) (e : Value) (s' : Shared), Inv X pins σ H s → CX X.stack H s (EX σ) e s' → X.xe e s'
def tCallS (sp : Sp) (dvs : List V) (EX : St → XK) (t : TA) : TE := fun σ H Q => t σ H fun vs H1 => sp (vs ++ dvs) H1 Q (EX σ)
section
variable {X : Cx} {CX : CXT} {k : Nat} {f C : Addr} {fd : FuncData} {ps : List Str} {sp : Sp} {dvs : List V} {ds : List Value} {EX : St → XK} {x m : Str} {p pos apos : Pos} {e o : Expr} {es : List Expr} {ta : TE} {t : TA} {sf : Stmt}
theorem run_fnS {pins : List (Addr × Obj)} {σ : St} {H : Hp} {s : Shared} {Q : VK} {us : List Value} {vs : List V} (F : FnOk X.prog X.w X.K X.mg X.base CX k f fd ps sp) (hr : Room k X.A) (hb : Binds X.K fd ps ds) (hd : Vals dvs ds) (hx : PassesS CX X EX)
    (I : Inv X pins σ H s) (r : Vals vs us) (h : sp (vs ++ dvs) H Q (EX σ)) : wpAny (model X.prog X.w) X.A (call (.ref f) us) (EP X pins σ Q) X.xe s := by
  have r2 : Vals (vs ++ dvs) (us ++ ds) := r.append hd
  have hl : (us ++ ds).length = ps.length := by rw [← r2.length]; exact F.len _ _ _ _ h
  refine wpAny_call (codeAny_mono (F.run X.A X.stack s H ⟨us, []⟩ (us ++ ds) (vs ++ dvs) Q (EX σ) hr I.env0 (hb s us I.kIn hl) r2 h) fun r s' hq => ?_)
  cases r with
  | error e => exact hx pins σ H s e s' I hq
  | ok fl =>
    cases fl with
    | ret u => exact I.after hq
    | next => exact False.elim hq
    | brk => exact False.elim hq
    | cont => exact False.elim hq
theorem pe_callS (F : FnOk X.prog X.w X.K X.mg X.base CX k f fd ps sp) (hr : Room k X.A) (hg : Gl X x) (hm : X.mg x = some (.ref f)) (hk : PySem.W.keepIn X.K (.ref f) = true) (hb : Binds X.K fd ps ds) (hd : Vals dvs ds) (hx : PassesS CX X EX)
    (ha : PA X (e :: es) t) (hdb : (x == ("__debug__" : Str)) = false := by decide) (he : starEach (e :: es) X.env = (false, eval e X.env) :: starEach es X.env := by rfl) (hpl : (backTo pos (starEach es X.env)).any (·.1) = false := by rfl) :
    PE X (.Call (.Name x p) (e :: es) [] pos) (tCallS sp dvs EX t) := by
  intro pins s σ H Q I h
  refine wpAny_Call_Name_kw (ld_glob I hg hm ?_ hdb)
  refine PySem.W.callWith_K (h₀ := X.base) I.ok.mod.kin hk (thn (ha pos pins s σ H _ I h) fun us s1 ⟨vs, H1, I1, r, q⟩ => ⟨I1.kIn, ?_⟩) he hpl
  exact run_fnS F hr hb hd hx I1 r q
theorem b_fS (hx : PassesS (CXE X.prog X.w) X EX) (N : Fn X.K X.mg x sf ps f fd) (G : FnOk X.prog X.w X.K X.mg X.base (CXE X.prog X.w) k f fd ps sp) (hr : Room k X.A) (ha : BA X (e :: es) t) (hg : Gl X x := by rfl) (hdb : (x == ("__debug__" : Str)) = false := by decide) (h1 : isStar e = false := by rfl) (h2 : noStar es = true := by rfl) :
    BE X (.Call (.Name x p) (e :: es) [] pos) (tCallS sp [] EX t) := ⟨pe_callS G hr hg N.mgx N.fu.kp N.bd .nil hx ha.h hdb (star_cons h1) (star_any h2)⟩
end
/-! ### the body of a try -/
/-- what is wanted of an exception that comes to a try of the context X -/
def ET (X : Cx) (pins : List (Addr × Obj)) (EX : St → XK) : Value → Shared → Prop := fun e s1 => ∃ (ea T : Addr) (cls : Value) (dc : Option Addr) (σ : St) (H : Hp), e = .ref ea ∧ Inv X pins σ H s1 ∧ FlyT s1.heap ea T cls dc ∧
  X.s₀.heap.get? ea = none ∧ X.s₀.heap.get? T = none ∧ H ea = none ∧ H T = none ∧ (∀ p ∈ X.pn ++ pins, p.1 ≠ ea ∧ p.1 ≠ T) ∧ (ea ≠ X.env.locals ∧ T ≠ X.env.locals) ∧ (∀ x c, X.env.cells.lookup x = some c → c ≠ ea ∧ c ≠ T) ∧ EX σ cls dc H
def Cx.tried (X : Cx) (pins : List (Addr × Obj)) (EX : St → XK) : Cx := { X with pn := X.pn ++ pins, xe := ET X pins EX }
section
variable {X : Cx} {pins pins' : List (Addr × Obj)} {EX : St → XK} {σ : St} {H : Hp} {s : Shared}
theorem Inv.tried (I : Inv X pins σ H s) : Inv (X.tried pins EX) [] σ H s :=
  ⟨⟨I.ok.mod, I.ok.kind, I.ok.glob, I.ok.blt, I.ok.above, I.ok.inj, I.ok.has, I.ok.cab, I.ok.hd, I.ok.frames, I.ok.stk, I.ok.exf, I.ok.bs, I.ok.bsz, I.ok.noex, I.ok.exfs, I.ok.funs, I.ok.frf⟩, I.os, I.bare, I.base, I.loc, I.cell, I.free, I.freeC, fun p hp => I.pin p (by simpa [Cx.tried] using hp), I.hok, I.len⟩
theorem Inv.untried (I : Inv (X.tried pins EX) pins' σ H s) : Inv X pins σ H s :=
  ⟨⟨I.ok.mod, I.ok.kind, I.ok.glob, I.ok.blt, I.ok.above, I.ok.inj, I.ok.has, I.ok.cab, I.ok.hd, I.ok.frames, I.ok.stk, I.ok.exf, I.ok.bs, I.ok.bsz, I.ok.noex, I.ok.exfs, I.ok.funs, I.ok.frf⟩, I.os, I.bare, I.base, I.loc, I.cell, I.free, I.freeC, fun p hp => I.pin p (List.mem_append_left _ hp), I.hok, I.len⟩
theorem SP.untried {D : Ends} {f : Flow} {s' : Shared} (h : SP (X.tried pins EX) pins' D f s') : SP X pins D f s' := by
  cases f with
  | next => obtain ⟨σ', H', I, q⟩ := h; exact ⟨σ', H', I.untried, q⟩
  | brk => obtain ⟨σ', H', I, q⟩ := h; exact ⟨σ', H', I.untried, q⟩
  | cont => obtain ⟨σ', H', I, q⟩ := h; exact ⟨σ', H', I.untried, q⟩
  | ret u => obtain ⟨v, σ', H', I, r, q⟩ := h; exact ⟨v, σ', H', I.untried, r, q⟩
theorem tried_passes (hx : X.ex = []) : PassesS (CXE X.prog X.w) (X.tried pins EX) EX := by
  intro pins' σ H s e s' I h
  obtain ⟨ea, T, cls, dc, H', rfl, os, bare, un, hok, F, hea, hT, nea, nT, hE⟩ := h
  have I0 : Inv X pins σ H s := I.untried
  have I1 : Inv X pins σ H' s' := I0.call' os un hok bare (fun b z => absurd z (by simp))
  have ne : ∀ b o c, s.heap.get? b = some o → s.heap.get? c = none → b ≠ c := fun b o c e n z => by rw [z, n] at e; cases e
  obtain ⟨m, ⟨o, es, ep, ho, _⟩, _⟩ := id I0.loc
  refine ⟨ea, T, cls, dc, σ, H', rfl, I1, F, I0.new0 hx hea, I0.new0 hx hT, nea, nT, fun p hp => ?_, ⟨Ne.symm (ne _ _ _ ho hea), Ne.symm (ne _ _ _ ho hT)⟩, fun x c e => ?_, hE⟩
  · have := (I0.pin p hp).1
    exact ⟨ne _ _ _ this hea, ne _ _ _ this hT⟩
  · obtain ⟨v, oc, hoc, _⟩ := I0.cell x c e
    exact ⟨ne _ _ _ hoc hea, ne _ _ _ hoc hT⟩
end
end L2

set_option Elab.async false
set_option linter.all false
set_option maxRecDepth 100000
set_option maxHeartbeats 4000000
namespace L2
open PySem PySem.Spec PyProof.Rows
/-- once more -/
theorem fly_land {M : Model} {A : Around} {E : Value → Shared → Prop} {s : Shared} {Q : Unit → Shared → Prop} {l : List Env} {base : Heap} {ea T : Addr} {cls : Value} {dc : Option Addr} (hl : s.heap.FunFrames base l)
    (F : FlyT s.heap ea T cls dc) (hQ : ∀ h' T', FlyT h' ea T' cls dc → (T' = T ∨ s.heap.get? T' = none) → Flown (frs l) ea T s.heap h' → Q () { s with heap := h' }) : wpAny M A (setFlight (.ref ea) none) Q E s := by
  obtain ⟨oe, vs, oT, ts, he, hc, hdc, hv, h1, hTe, hT, hdT, h3⟩ := F
  have z3 : 3 < ts.size := (Array.getElem?_eq_some_iff.mp h3).1
  have hTf : T ∉ frs l := frame_no hl hT hdT
  refine fly_over he hv h1 hT hdT z3 fun h2 o2 t2 => ?_
  refine hQ h2 T ⟨oe, vs, _, _, (o2 _ (Ne.symm hTe)).trans he, hc, hdc, hv, h1, hTe, t2, Obj.data_mapFields hdT _, by simp [z3]⟩ (.inl rfl) ⟨fun c o q a1 a2 a3 => (o2 c a2).trans q, fun c o q hm => ⟨o.slots, (o2 c (fun z => hTf (by rw [← z]; exact hm))).trans q⟩⟩
/-- b is nothing of the frame's own -/
structure Apart (X : Cx) (pins : List (Addr × Obj)) (H : Hp) (b : Addr) : Prop where
  old : X.s₀.heap.get? b = none
  free : H b = none
  pin : ∀ p ∈ X.pn ++ pins, p.1 ≠ b
  loc : b ≠ X.env.locals
  cell : ∀ x c, X.env.cells.lookup x = some c → c ≠ b
section
variable {X : Cx} {pins : List (Addr × Obj)} {σ : St} {H : Hp} {s : Shared} {h' : Heap} {ea T T' : Addr} {t' : Nat}
theorem Inv.flownA (I : Inv X pins σ H s) (Fl : Flown (frs X.stack) ea T s.heap h') (a : Apart X pins H ea) (b : Apart X pins H T) : Inv X pins σ H { s with heap := h', toks := t' } :=
  I.flown Fl a.old b.old a.free b.free (fun p hp => ⟨a.pin p hp, b.pin p hp⟩) ⟨a.loc, b.loc⟩ fun x c e => ⟨a.cell x c e, b.cell x c e⟩
theorem Inv.apart (I : Inv X pins σ H s) (hx : X.ex = []) (hea : s.heap.get? ea = none) : Apart X pins H ea := by
  have ne : ∀ b o c, s.heap.get? b = some o → s.heap.get? c = none → b ≠ c := fun b o c e n z => by rw [z, n] at e; cases e
  obtain ⟨m, ⟨o, es, ep, ho, _⟩, _⟩ := id I.loc
  refine ⟨I.new0 hx hea, I.hok.none_of hea, fun p hp => ne _ _ _ (I.pin p hp).1 hea, Ne.symm (ne _ _ _ ho hea), fun x c e => ?_⟩
  obtain ⟨v, oc, hoc, _⟩ := I.cell x c e
  exact ne _ _ _ hoc hea
theorem Apart.next (I : Inv X pins σ H s) (hx : X.ex = []) (a : Apart X pins H T) (h : T' = T ∨ s.heap.get? T' = none) : Apart X pins H T' := by
  rcases h with rfl | h
  · exact a
  · exact I.apart hx h
end
/-- the ends of an except suite: its name is gone behind it -/
def Ends.gone (D : Ends) (i : Nat) : Ends := { nx := fun σ H => D.nx (σ.set i none) H, rt := D.rt, bk := fun σ H => D.bk (σ.set i none) H, ct := fun σ H => D.ct (σ.set i none) H }
/-- the context of an except suite; the exception itself is pinned -/
def Cx.heldX (X : Cx) (ea : Addr) (oe : Obj) : Cx := { X with A := X.A.mark (some (.ref ea)), calm := false, xe := fun _ _ => False, pn := (ea, oe) :: X.pn }
section
variable {X : Cx} {pins : List (Addr × Obj)} {σ : St} {H : Hp} {s : Shared} {ea : Addr} {oe : Obj}
theorem Inv.heldX (I : Inv X pins σ H s) (a : Apart X pins H ea) (he : s.heap.get? ea = some oe) (hd : ∀ v, oe.data ≠ .cell v) : Inv (X.heldX ea oe) pins σ H s := by
  have J := I.held (.ref ea) fun _ _ => False
  refine ⟨⟨J.ok.mod, J.ok.kind, J.ok.glob, J.ok.blt, J.ok.above, J.ok.inj, J.ok.has, J.ok.cab, fun h => absurd (show false = true from h) (by decide), J.ok.frames, J.ok.stk, J.ok.exf, J.ok.bs, J.ok.bsz, J.ok.noex, J.ok.exfs, J.ok.funs, J.ok.frf⟩, I.os, I.bare, I.base, I.loc, I.cell, I.free, I.freeC, fun p hp => ?_, I.hok, I.len⟩
  rcases List.mem_cons.mp (show p ∈ (ea, oe) :: (X.pn ++ pins) from hp) with rfl | hp
  · refine ⟨he, a.free, a.loc, fun z => ?_, hd⟩
    obtain ⟨_, o, ho, _⟩ := I.ok.funs.mem z
    have := a.old
    rw [ho] at this
    cases this
  · exact I.pin p hp
theorem Inv.unheldX (ok : X.Ok) (I : Inv (X.heldX ea oe) pins σ H s) : Inv X pins σ H s :=
  ⟨ok, I.os, I.bare, I.base, I.loc, I.cell, I.free, I.freeC, fun p hp => I.pin p (List.mem_cons_of_mem _ hp), I.hok, I.len⟩
end
end L2

set_option Elab.async false
set_option linter.all false
set_option maxRecDepth 100000
set_option maxHeartbeats 4000000
namespace L2
open PySem PySem.Spec PyProof.Rows
/-! ### isinstance of an exception that is held -/
/-- a class, as a value -/
def isCl : V → Bool
  | .ref _ => true
  | .ty _ => true
  | _ => false
def vcl : V → Value
  | .ref a => .ref a
  | .ty n => .type n
  | _ => .none
theorem vcl_rel {v : V} {u : Value} (r : RelV v u) (h : isCl v = true) : u = vcl v := by
  cases v <;> first | exact r | cases h
theorem vcl_vals {xs : List V} {us : List Value} (r : Vals xs us) (h : xs.all isCl = true) : us = xs.map vcl := by
  induction r with
  | nil => rfl
  | cons a _ ih =>
    rw [List.all_cons, Bool.and_eq_true] at h
    rw [List.map_cons, ← vcl_rel a h.1, ← ih h.2]
/-- what is asked of the exception ea of the class C: one class, or a tuple of classes -/
def rIsX (K : PySem.W.Frag) (C ea : Addr) : List V → Hp → VK → Prop := fun xs H Q => ∃ c b, xs = [.ref ea, c] ∧
  ((isCl c = true ∧ PySem.W.kitOne K (.ref C) (vcl c) = some b) ∨ ∃ tp cs, c = .ref tp ∧ H tp = some (.tup cs) ∧ cs.all isCl = true ∧ PySem.W.kitAny K (.ref C) (cs.map vcl) = some b) ∧ Q (.bl b) H
section
variable {X : Cx} {ea C : Addr} {oe : Obj}
theorem call_isX (Z : PySem.W.KitX X.K (.ref ea) (.ref C) fun h => OfCls h ea C) (hp : (ea, oe) ∈ X.pn) (hc : oe.cls = .ref C) : CallR X (.builtin "isinstance") (rIsX X.K C ea) := by
  intro pins s σ H xs us Q I r h
  obtain ⟨c, b, rfl, hk, q⟩ := h
  obtain ⟨u, w', rfl, ru, rw'⟩ := vals2 r
  cases (show u = Value.ref ea from ru)
  have at_ : OfCls s.heap ea C := ⟨oe, (I.pin _ (List.mem_append_left _ hp)).1, hc⟩
  rcases hk with ⟨h1, h2⟩ | ⟨tp, cs, rfl, ht, h1, h2⟩
  · rw [← vcl_rel rw' h1] at h2
    exact PySem.W.kia_one Z I.kIn at_ h2 (fun z => nomatch z) fun tk => ⟨.bl b, H, I.tok tk, rfl, q⟩
  · cases (show w' = Value.ref tp from rw')
    obtain ⟨_, vs, rv, p⟩ := (show ObjOk X.prog X.w H s.heap tp (.tup cs) from I.hok tp _ ht)
    obtain ⟨o, g1, g2, n, g3⟩ := p
    rw [← vcl_vals rv h1] at h2
    obtain ⟨oc, od, oda, osl⟩ := o
    dsimp only at g2 g3
    subst g2 g3
    exact PySem.W.kia_tup Z I.kIn at_ g1 h2 (fun z => nomatch z) fun tk => ⟨.bl b, H, I.tok tk, rfl, q⟩
end
end L2

set_option Elab.async false
set_option linter.all false
set_option maxRecDepth 100000
set_option maxHeartbeats 4000000
namespace L2
open PySem PySem.Spec PySem.Calls PySem.W PyProof.Rows Builtin Builtin.ObjectAttr Builtin.Getset_descriptor
section
variable {P : Program} {w : World} {A : Around} {E : Value → Shared → Prop} {s : Shared} {K : PySem.W.Frag} {x C : Addr}
/-- a data descriptor of the class is found whatever the object's own dict says -/
theorem OfCls.finds {M : Model} {h : Heap} {name : Str} {a g : Value} (X : K.In h) (ha : findIn K (.ref C) name = some (some a)) (hg : specialIn K a "__get__" = some (some g)) (ht : takesIn K a = some true) :
    Looks M h (find (.ref x) (.ref C) name) (.bind g a) := by
  have f := looks_takesIn (M := M) X ht
  have d : Looks M h (dataDescriptor? (some a) (some g)) (some (g, a)) := f.andThen .now
  exact (looks_findIn X ha).andThen ((show Looks M h (getOf (some a)) (some g) from looks_specialIn X hg).andThen (d.andThen (.tag .now)))
/-- e.__class__ of it -/
theorem OfCls.class_of {Q : Option Value → Shared → Prop} (I : OfCls s.heap x C) (X : K.In s.heap) (hg : plainGet K C "__class__" = true) (ha : findIn K (.ref C) "__class__" = some (some (.builtin "object.__class__")))
    (hn : specialIn K (.builtin "object.__class__") "__get__" = some (some (.builtin "getset_descriptor.__get__"))) (ht : takesIn K (.builtin "object.__class__") = some true) (hm : mroIn K C (.type "object") = some true)
    (h : Q (some (.ref C)) { s with toks := s.toks + 1 }) : wpAny (model P w) A (getAttr? (.ref x) "__class__") Q E s := by
  obtain ⟨hh, g, d, t, os⟩ := s
  have L0 := I.type (M := model P w)
  have L1 := looks_findIn (M := model P w) X (plainGet_of hg).1
  have L2 := looks_findIn (M := model P w) X (plainGet_of hg).2
  have L3 := OfCls.finds (M := model P w) (x := x) X ha hn ht
  have L4 := looks_mroIn (M := model P w) X hm
  unfold getAttr? getAttrBy? getAttrBy
  refine wpAny_bind (wpAny_mkText (wpAny_bind (wpAny_attempt (wpAny_holding (wpAny_bind (L0.at (wpAny_bind (L1.at ?_))))))))
  refine wpAny_bind (wpAny_onRaise (wpAny_runValue (codeAny_builtin PySem.F.plainObj_entry_getattr_hooked ?_)))
  refine wpAny_bind (wpAny_pure (wpAny_bind (L0.at (wpAny_bind (L3.at (wpAny_bind (L2.at (wpAny_bind (wpAny_holding (wpAny_call ?_)))))))))) 
  refine codeAny_call_builtin KF.slot_gs.plain KF.entry_gs (KF.slot_gs.check _ _ _ _ _ _ _ _ KF.type_class (KF.args_gs _ _ _) ?_)
  simp only [Builtin.«getset_descriptor.__get__», descrGet, dga_obj, descrGetter, descrCheckInstance, descrNameAndClass, isInstance, KF.owner_class]
  refine wpAny_bind (wpAny_pure ?_)
  simp only [KF.owner_class]
  repeat lk
  refine ⟨Code.quiet_builtin _ (by decide +kernel), codeAny_builtin KF.entry_class ?_⟩
  simp only [Builtin.«object.__class__», shownTypeOf]
  repeat lk
  exact h
/-- what isinstance asks of such an object -/
structure ClsX (K : PySem.W.Frag) (C : Addr) : Prop where
  hg : plainGet K C "__class__" = true
  ha : findIn K (.ref C) "__class__" = some (some (.builtin "object.__class__"))
  hn : specialIn K (.builtin "object.__class__") "__get__" = some (some (.builtin "getset_descriptor.__get__"))
  ht : takesIn K (.builtin "object.__class__") = some true
  hm : mroIn K C (.type "object") = some true
  hk : kitCls K (.ref C) (.ref C) = some true
theorem ClsX.kit (c : ClsX K C) : KitX K (.ref x) (.ref C) fun h => OfCls h x C where
  ty := fun _ _ _ I => I.type
  it := fun _ _ X _ => (kit_cls X c.hk).2.1
  ne := fun h tp dd its n sl X htp => by
    refine Bool.eq_false_iff.mpr fun q => ?_
    cases Value.ref.inj (beq_iff_eq.mp q)
    obtain ⟨cd, e, _⟩ := Option.bind_eq_some_iff.mp c.hm
    unfold PySem.W.clsIn at e
    split at e
    · rename_i ho
      have z := (X _ _ ho).symm.trans htp
      cases z
    · cases e
  ca := fun X I k => I.class_of X c.hg c.ha c.hn c.ht c.hm k
end
section
variable {X : Cx} {ea C : Addr} {oe : Obj}
end
end L2

set_option Elab.async false
set_option linter.all false
set_option maxRecDepth 100000
set_option maxHeartbeats 4000000
namespace L2
open PySem PySem.Spec PySem.Calls PySem.W PyProof.Rows Builtin Builtin.ObjectAttr Builtin.Getset_descriptor
theorem entry_bx : entryFor table "BaseException.__getattribute__" = some Builtin.«object.__getattribute__» := entryFor_alias (id' := "object.__getattribute__") (by kernel_rfl) rfl (by decide +kernel) (by kernel_rfl)
theorem plain_bx : plainId "BaseException.__getattribute__" = true := by decide +kernel
theorem type_bx : typeOf (.builtin "BaseException.__getattribute__") = pure (.type "wrapper_descriptor") := by with_unfolding_all rfl
theorem args_bx (a b : Value) : argsOk "BaseException.__getattribute__" { pos := [a, b] } := by with_unfolding_all rfl
theorem kind_bx : builtinKind "BaseException.__getattribute__" = some .slot := by decide +kernel
theorem split_bx : splitId "BaseException.__getattribute__" = some ("BaseException", "__getattribute__") := by decide +kernel
end L2

set_option Elab.async false
set_option linter.all false
set_option maxRecDepth 100000
set_option maxHeartbeats 4000000
namespace L2
open PySem PySem.Spec PySem.Calls PySem.W PyProof.Rows Builtin Builtin.ObjectAttr Builtin.Getset_descriptor
section
variable {P : Program} {w : World} {A : Around} {E : Value → Shared → Prop} {s : Shared} {K : PySem.W.Frag} {x C : Addr}
theorem check_bx {Q : Unit → Shared → Prop} {b : Value} (I : OfCls s.heap x C) (X : K.In s.heap) (hb : mroIn K C (.type "BaseException") = some true) (h : Q () s) : wpAny (model P w) A (checkBuiltinCall "BaseException.__getattribute__" { pos := [.ref x, b] }) Q E s := by
  obtain ⟨hh, g, d, t, os⟩ := s
  unfold checkBuiltinCall
  rw [kind_bx, split_bx]
  dsimp only
  have L0 := I.type (M := model P w)
  have L4 := looks_mroIn (M := model P w) X hb
  refine wpAny_bind ?_
  unfold isInstance
  refine wpAny_bind (L0.at ?_)
  refine L4.at ?_
  rw [if_neg (by decide)]
  have e := args_bx (.ref x) b
  unfold argsOk at e
  revert e
  cases Manifest.signature? "BaseException.__getattribute__" with
  | none => intro _; exact wpAny_pure h
  | some sig => intro e; dsimp only at e ⊢; rw [e]; exact wpAny_pure h
/-- e.__class__ of an exception of an own class -/
theorem OfCls.class_ofX {Q : Option Value → Shared → Prop} (I : OfCls s.heap x C) (X : K.In s.heap) (hg1 : findIn K (.ref C) "__getattribute__" = some (some (.builtin "BaseException.__getattribute__"))) (hg2 : findIn K (.ref C) "__getattr__" = some none) (hb : mroIn K C (.type "BaseException") = some true)
    (ha : findIn K (.ref C) "__class__" = some (some (.builtin "object.__class__")))
    (hn : specialIn K (.builtin "object.__class__") "__get__" = some (some (.builtin "getset_descriptor.__get__"))) (ht : takesIn K (.builtin "object.__class__") = some true) (hm : mroIn K C (.type "object") = some true)
    (h : Q (some (.ref C)) { s with toks := s.toks + 1 }) : wpAny (model P w) A (getAttr? (.ref x) "__class__") Q E s := by
  obtain ⟨hh, g, d, t, os⟩ := s
  have L0 := I.type (M := model P w)
  have L1 := looks_findIn (M := model P w) X hg1
  have L2 := looks_findIn (M := model P w) X hg2
  have L3 := OfCls.finds (M := model P w) (x := x) X ha hn ht
  have L4 := looks_mroIn (M := model P w) X hm
  unfold getAttr? getAttrBy? getAttrBy
  refine wpAny_bind (wpAny_mkText (wpAny_bind (wpAny_attempt (wpAny_holding (wpAny_bind (L0.at (wpAny_bind (L1.at ?_))))))))
  dsimp only
  rw [if_neg (by intro z; exact absurd (Bool.and_eq_true _ _ ▸ z : _ ∧ _).2 (by decide))]
  unfold getAttrByItsOwn hookBefore
  rw [if_pos (by rfl)]
  refine wpAny_bind (L2.at ?_)
  refine wpAny_bind (wpAny_attempt (wpAny_holding ?_))
  unfold callGetattribute
  rw [if_neg (by decide)]
  unfold boundAndCalled bindSpecial
  rw [type_bx]
  refine wpAny_bind (wpAny_bind (wpAny_pure ?_))
  rw [if_pos (by decide)]
  refine wpAny_pure ?_
  dsimp only [List.cons_append, List.nil_append]
  refine wpAny_call (codeAny_call_builtin plain_bx entry_bx (check_bx (K := K) I X hb ?_))
  unfold Builtin.«object.__getattribute__»
  refine wpAny_bind (show wpAny _ _ (pure (Value.ref x, [Value.str "__class__" t])) _ _ _ from wpAny_pure ?_)
  dsimp only
  refine wpAny_bind (show wpAny _ _ (pure ("__class__" : Str)) _ _ _ from wpAny_pure ?_)
  refine wpAny_bind (L0.at (wpAny_bind (L3.at ?_)))
  dsimp only
  unfold bindTo
  dsimp only
  refine wpAny_bind (wpAny_holding (wpAny_call ?_))
  refine codeAny_call_builtin KF.slot_gs.plain KF.entry_gs (KF.slot_gs.check _ _ _ _ _ _ _ _ KF.type_class (KF.args_gs _ _ _) ?_)
  simp only [Builtin.«getset_descriptor.__get__», descrGet, dga_obj, descrGetter, descrCheckInstance, descrNameAndClass, isInstance, KF.owner_class]
  refine wpAny_bind (wpAny_pure ?_)
  simp only [KF.owner_class]
  repeat lk
  refine ⟨Code.quiet_builtin _ (by decide +kernel), codeAny_builtin KF.entry_class ?_⟩
  simp only [Builtin.«object.__class__», shownTypeOf]
  repeat lk
  exact h
/-- what isinstance asks of an exception of an own class -/
structure ClsY (K : PySem.W.Frag) (C : Addr) : Prop where
  hg1 : findIn K (.ref C) "__getattribute__" = some (some (.builtin "BaseException.__getattribute__"))
  hg2 : findIn K (.ref C) "__getattr__" = some none
  hb : mroIn K C (.type "BaseException") = some true
  ha : findIn K (.ref C) "__class__" = some (some (.builtin "object.__class__"))
  hn : specialIn K (.builtin "object.__class__") "__get__" = some (some (.builtin "getset_descriptor.__get__"))
  ht : takesIn K (.builtin "object.__class__") = some true
  hm : mroIn K C (.type "object") = some true
  hk : kitCls K (.ref C) (.ref C) = some true
theorem ClsY.kit (c : ClsY K C) : KitX K (.ref x) (.ref C) fun h => OfCls h x C where
  ty := fun _ _ _ I => I.type
  it := fun _ _ X _ => (kit_cls X c.hk).2.1
  ne := fun h tp dd its n sl X htp => by
    refine Bool.eq_false_iff.mpr fun q => ?_
    cases Value.ref.inj (beq_iff_eq.mp q)
    obtain ⟨cd, e, _⟩ := Option.bind_eq_some_iff.mp c.hm
    unfold PySem.W.clsIn at e
    split at e
    · rename_i ho
      have z := (X _ _ ho).symm.trans htp
      cases z
    · cases e
  ca := fun X I k => I.class_ofX X c.hg1 c.hg2 c.hb c.ha c.hn c.ht c.hm k
end
section
variable {X : Cx} {ea C : Addr} {oe : Obj}
theorem c_isY (c : ClsY X.K C) (hp : (ea, oe) ∈ X.pn) (hc : oe.cls = .ref C) : CallR X (.builtin "isinstance") (rIsX X.K C ea) := call_isX c.kit hp hc
end
end L2

set_option Elab.async false
set_option linter.all false
set_option maxRecDepth 100000
set_option maxHeartbeats 4000000
namespace L2
open PySem PySem.Spec PyProof.Rows
/-! ### a try of some clauses -/
/-- what the clauses do with an exception of the class C at ea -/
abbrev TH := Addr → Addr → Option Addr → TS
structure BH (X : Cx) (hs : List ExceptHandler) (t : TH) : Prop where
  h : ∀ (pins : List (Addr × Obj)) (s : Shared) (σ : St) (H : Hp) (D : Ends) (C ea T : Addr) (dc : Option Addr), Inv X pins σ H s → FlyT s.heap ea T (.ref C) dc → Apart X pins H ea → Apart X pins H T → t C ea dc D σ H → wpAny (model X.prog X.w) X.A (handleBy (.ref ea) X.env hs) (SP X pins D) X.xe s
/-- a clause with a name, a clause without one -/
def tHas (K : PySem.W.Frag) (i : Nat) (C' : Addr) (th tr : TH) : TH := fun C ea dc D σ H => ∃ b, PySem.W.kitCls K (.ref C) (.ref C') = some b ∧ if b = true then th C ea dc (D.gone i) (σ.set i (some (.ref ea))) H else tr C ea dc D σ H
def tH0 (K : PySem.W.Frag) (C' : Addr) (th tr : TH) : TH := fun C ea dc D σ H => ∃ b, PySem.W.kitCls K (.ref C) (.ref C') = some b ∧ if b = true then th C ea dc D σ H else tr C ea dc D σ H
def tHN : TH := fun _ _ _ _ _ _ => False
def tTryN (tb : (St → XK) → TS) (th : TH) : TS := fun D σ H => tb (fun σ' cls dc H' => ∃ C, cls = .ref C ∧ ∀ ea, H' ea = none → th C ea dc D σ' H') D σ H
section
variable {X : Cx} {i : Nat} {x n : Str} {C' : Addr} {body suite : List Stmt} {b₀ : Stmt} {tb : (St → XK) → TS} {th tr : TH} {np hpos pos : Pos} {hs : List ExceptHandler} {h₀ : ExceptHandler}
theorem SP.unheldX {pins : List (Addr × Obj)} {D : Ends} {f : Flow} {s' : Shared} {ea : Addr} {oe : Obj} (ok : X.Ok) (h : SP (X.heldX ea oe) pins D f s') : SP X pins D f s' := by
  cases f with
  | next => obtain ⟨σ', H', I, q⟩ := h; exact ⟨σ', H', I.unheldX ok, q⟩
  | brk => obtain ⟨σ', H', I, q⟩ := h; exact ⟨σ', H', I.unheldX ok, q⟩
  | cont => obtain ⟨σ', H', I, q⟩ := h; exact ⟨σ', H', I.unheldX ok, q⟩
  | ret u => obtain ⟨v, σ', H', I, r, q⟩ := h; exact ⟨v, σ', H', I.unheldX ok, r, q⟩
/-- none is left: nothing comes here -/
theorem bh_nil : BH X [] tHN := ⟨fun _ _ _ _ _ _ _ _ _ _ _ _ _ h => h.elim⟩
theorem bh_as (hx : X.ex = []) (hst : X.stack = X.env :: X.outer) (hN : X.N.Nodup) (hi : X.N[i]? = some n) (hk : X.env.scope.names.lookup n = some .local)
    (hm : X.mg x = some (.ref C')) (hC' : PySem.W.kitCls X.K (.ref C') (.type "BaseException") = some true) (hs1 : ∀ C ea oe dc, oe.cls = .ref C → oe.dict = dc → PySem.W.notCls oe = true → BSs (X.heldX ea oe) (b₀ :: suite) (th C ea dc)) (hr : BH X hs tr)
    (hg : Gl X x := by rfl) (hdb : (x == ("__debug__" : Str)) = false := by decide) : BH X (.ExceptHandler (some (.Name x np)) (some n) (b₀ :: suite) hpos :: hs) (tHas X.K i C' th tr) := ⟨by
  intro pins s1 σ1 H1 D C ea T dc I2 F2 a1 a3 ⟨b, hC, ht⟩
  have J2 := I2.held (.ref ea) fun _ _ => False
  refine wpAny_handleBy_cons (codeAny_handlers_test (ld_glob J2 hg hm ?_ hdb)) (by intro q; cases q)
  obtain ⟨oe, _, _, _, he, hcl, _⟩ := id F2
  refine matches_own I2.kIn ⟨oe, he, hcl⟩ hC' hC ?_
  cases b with
  | false => exact hr.h pins s1 σ1 H1 D C ea T dc I2 F2 a1 a3 ht
  | true =>
    refine codeAny_handlers_suite_as ?_
    refine fly_land (l := X.env :: X.outer) (hst ▸ I2.stack) F2 fun h3 T3 F3 n3 Fl3 => ?_
    have I3 : Inv X pins σ1 H1 { s1 with heap := h3 } := I2.flownA (t' := s1.toks) (hst ▸ Fl3) a1 a3
    obtain ⟨o3, _, _, _, he3, hcl3, hdc3, hd3, _⟩ := id F3
    have J3 := I3.heldX (oe := o3) a1 he3 fun v z => by rw [hd3] at z; cases z
    refine store_ok (X := X.heldX ea o3) (v := .ref ea) J3 hN hi (.inl hk) rfl (fun s4 I4 => ?_) (.inr hk)
    refine wpAny_mono ((hs1 C ea o3 dc hcl3 hdc3 (by unfold PySem.W.notCls; rw [hd3])).h pins s4 _ H1 (D.gone i) I4 ht) (fun f s5 q => ?_) fun _ _ q => q.elim
    have q' := SP.unheldX I2.ok q
    cases f with
    | next => obtain ⟨σ', H', I5, r⟩ := q'; exact name_goes I5 hN hi hk fun s6 I6 => ⟨_, _, I6, r⟩
    | brk => obtain ⟨σ', H', I5, r⟩ := q'; exact name_goes I5 hN hi hk fun s6 I6 => ⟨_, _, I6, r⟩
    | cont => obtain ⟨σ', H', I5, r⟩ := q'; exact name_goes I5 hN hi hk fun s6 I6 => ⟨_, _, I6, r⟩
    | ret u => obtain ⟨v, σ', H', I5, rv, r⟩ := q'; exact name_goes I5 hN hi hk fun s6 I6 => ⟨v, _, _, I6, rv, r⟩⟩
theorem bs_try (hx : X.ex = []) (hst : X.stack = X.env :: X.outer) (hfr : X.env.frame = some X.env.locals) (hb : ∀ pins EX, BSs (X.tried pins EX) body (tb EX)) (hh : BH X (h₀ :: hs) th) :
    BS X (.Try body (h₀ :: hs) [] [] pos) (tTryN tb th) := ⟨by
  intro pins s σ H D I h
  refine wpAny_Try_except (wpAny_mono ((hb pins _).h [] s σ H D I.tried h) (fun f s1 q => ?_) fun e s1 q => ?_)
  · have q' := SP.untried q
    cases f with
    | next => exact wpAny_execs_nil q'
    | brk => exact q'
    | cont => exact q'
    | ret u => exact q'
  · obtain ⟨ea, T, cls, dc, σ1, H1, rfl, I1, F1, e1, e2, e3, e4, e5, e6, e7, C, rfl, ht⟩ := q
    have a1 : Apart X pins H1 ea := ⟨e1, e3, fun p hp => (e5 p hp).1, e6.1, fun x c e => (e7 x c e).1⟩
    have a2 : Apart X pins H1 T := ⟨e2, e4, fun p hp => (e5 p hp).2, e6.2, fun x c e => (e7 x c e).2⟩
    have fr : X.A.frames = some (X.env :: X.outer) := by rw [I.ok.frames, hst]
    refine fly_next fr hfr (hst ▸ I1.stack) F1 fun h2 T2 F2 n2 Fl2 => ?_
    have I2 : Inv X pins σ1 H1 { s1 with heap := h2 } := I1.flownA (t' := s1.toks) (hst ▸ Fl2) a1 a2
    exact hh.h pins _ σ1 H1 D C ea T2 dc I2 F2 a1 (a2.next I1 hx n2) (ht ea e3)⟩
end
end L2

set_option Elab.async false
set_option linter.all false
set_option maxRecDepth 100000
set_option maxHeartbeats 4000000
namespace L2
open PySem PySem.Spec PyProof.Rows
section
variable {X : Cx} {ea C : Addr} {oe : Obj} {K : PySem.W.Frag}
/-- isinstance of the exception that is held: its class is known only when it comes -/
def rIsXC (K : PySem.W.Frag) (C ea : Addr) : List V → Hp → VK → Prop := fun xs H Q => ClsY K C ∧ rIsX K C ea xs H Q
theorem c_isXC (hp : (ea, oe) ∈ X.pn) (hc : oe.cls = .ref C) : CallR X (.builtin "isinstance") (rIsXC X.K C ea) := fun pins s σ H xs us Q I r h => c_isY h.1 hp hc pins s σ H xs us Q I r h.2
theorem c_isH (hc : oe.cls = .ref C) : CallR (X.heldX ea oe) (.builtin "isinstance") (rIsXC X.K C ea) := c_isXC List.mem_cons_self hc
theorem triedK {pins : List (Addr × Obj)} {EX : St → XK} : (X.tried pins EX).K = X.K := rfl
theorem heldXK : (X.heldX ea oe).K = X.K := rfl
theorem rd_isX1 {H : Hp} {Q : VK} {c : V} {b : Bool} (z : ClsY K C) (h1 : isCl c = true) (h2 : PySem.W.kitOne K (.ref C) (vcl c) = some b) (q : Q (.bl b) H) : rIsXC K C ea [.ref ea, c] H Q := ⟨z, c, b, rfl, .inl ⟨h1, h2⟩, q⟩
theorem rd_isXT {H : Hp} {Q : VK} {tp : Addr} {cs : List V} {b : Bool} (z : ClsY K C) (ht : H tp = some (.tup cs)) (h1 : cs.all isCl = true) (h2 : PySem.W.kitAny K (.ref C) (cs.map vcl) = some b) (q : Q (.bl b) H) : rIsXC K C ea [.ref ea, .ref tp] H Q := ⟨z, _, b, rfl, .inr ⟨tp, cs, rfl, ht, h1, h2⟩, q⟩
end
section
variable {σ : St} {H : Hp} {D : Ends} {E : XK} {C : Addr} {Q : VK}
instance e1 {t : TA} : RdS (tRaise E C t D σ H) (t σ H fun vs H1 => mkR E C vs H1) := ⟨id⟩
instance e2 {sp : Sp} {t : TA} {EX : St → XK} : RdS (tCallS sp [] EX t σ H Q) (t σ H fun vs H1 => sp vs H1 Q (EX σ)) := ⟨fun h => by
  unfold tCallS
  simpa only [List.append_nil] using h⟩
instance e3 {tb : (St → XK) → TS} {th : TH} : RdS (tTryN tb th D σ H) (tb (fun σ' cls dc H' => ∃ C, cls = .ref C ∧ ∀ ea, H' ea = none → th C ea dc D σ' H') D σ H) := ⟨id⟩
end
end L2
namespace L2
open PySem PySem.Spec PyProof.Rows
end L2

set_option Elab.async false
set_option linter.all false
set_option maxRecDepth 100000
set_option maxHeartbeats 4000000
namespace PySem
open Sem (wp)
/-! ### an own error class some steps under a built-in one, with its own __init__ -/
section
variable {prog : Program} {w : World} {A : Around} {E : Value → Shared → Prop} {h : Heap} {g : Array GenState} {d : Drawn} {t : Nat} {os : OsState}
variable {nm q : Str} {C N : Addr} {bs bm bmB : List Value} {hdct : Bool} {sn : List Str} {sub : List Value} {ab : Bool} {col : Option Bool} {dd : Option Addr} {k0 k1 k2 k3 k5 : Option Value} {B newId initId : String}
theorem exd_type_call (F : ExcBaseFacts B newId initId bmB) (T : OwnTail h bmB bm) {mN : Str → Option Value} {rest : List Value} {fI : Addr} {oI : Obj} {Q : Fin → Shared → Prop}
    (hC : h.get? C = some (excClassObj nm q C N bs bm hdct sn sub ab col dd k0 k1 k2 k3 k5 newId)) (hn : h.Ns N mN) (hi : mN "__init__" = some (.ref fI))
    (hfI : h.get? fI = some oI) (hfc : oI.cls = .type "function") (hz : rest.length ≤ sizeLine)
    (hq : ∀ h1 e, h.objs.size ≤ e → Heap.MadeExcOf h h1 e (.ref C) rest → wpAny (model prog w) A (call (.ref fI) (.ref e :: rest)) (fun r s' => r = .none ∧ Q (.done (.ret (.ref e))) s') E ⟨h1, g, d, t, os⟩) :
    wpAny (model prog w) A (Builtin.«type.__call__» ⟨.ref C :: rest, []⟩) Q E ⟨h, g, d, t, os⟩ := by
  repeat (first | with_reducible refine wpAny_loadPart_at hC ?_ | with_reducible refine wpAny_madeBy_exc hC ?_ | wp_step)
  refine codeAny_call_builtin_code (Code.quiet_builtin _ F.quiet) (wpAny_check_new_subT F T hC ?_)
  refine codeAny_exc_new_subT F T hC ?_ hz
  show wpAny _ _ _ _ _ _
  obtain ⟨oT, hoT⟩ : ∃ oT : Obj, oT = { cls := .type "tuple", data := .seq rest.toArray } := ⟨_, rfl⟩
  obtain ⟨oX, hoX⟩ : ∃ oX : Obj, oX = { cls := .ref C, data := .fields #[.ref h.objs.size, .none, .none, .none, .bool false, .none] } := ⟨_, rfl⟩
  rw [← hoT, ← hoX]
  have kp : ∀ b o, h.get? b = some o → ((h.push oT).push oX).get? b = some o := fun b o e => Heap.get?_push_of_some _ (Heap.get?_push_of_some _ e)
  have hC1 := kp _ _ hC
  have hf1 := kp _ _ hfI
  have hn1 : ((h.push oT).push oX).Ns N mN := let ⟨o, es, ep, e, r⟩ := hn; ⟨o, es, ep, kp _ _ e, r⟩
  have T1 := T.keeps kp
  have hg : ((h.push oT).push oX).get? (h.objs.size + 1) = some oX := by subst hoT hoX; heap_get
  have hX : oX.cls = .ref C := by rw [hoX]
  have hin : (Value.ref C :: bm).contains (.ref C) = true := by simp
  unfold isInstance
  repeat (first | (with_reducible refine wpAny_loadPart_at hg ?_; rw [hX]) | (with_reducible refine wpAny_isSubtype_exc hC1 ?_; rw [hin]) | wp_step)
  show wpAny _ _ (typeLookup (.ref C) _) _ _ _
  refine wpAny_typeLookup_tail hC1 hn1 T1 F.mroIs F.init.lookup ?_
  rw [hi]
  refine wpAny_holding (wpAny_bind ?_)
  unfold bindSpecial
  refine wpAny_bind (wpAny_typeOf (T := "function") ⟨_, hf1, hfc⟩ ?_)
  rw [if_pos (by decide)]
  have made : Heap.MadeExcOf h ((h.push oT).push oX) (h.objs.size + 1) (.ref C) rest := by
    subst hoT hoX
    exact ⟨kp, Heap.get?_none_of_le (Nat.le_succ _), h.objs.size, hg, Heap.get?_none_of_le (Nat.le_refl _), Heap.get?_push_of_some _ (Heap.get?_push_at rfl rfl)⟩
  refine wpAny_pure (wpAny_bind (wpAny_mono (hq _ _ (Nat.le_succ _) made) (fun r s' hr => ?_) fun _ _ z => z))
  obtain ⟨rfl, hQ⟩ := hr
  wp_walk
  exact hQ
theorem exd_call (F : ExcBaseFacts B newId initId bmB) (T : OwnTail h bmB bm) {mN : Str → Option Value} {rest : List Value} {fI : Addr} {oI : Obj} {Q : Value → Shared → Prop}
    (hC : h.get? C = some (excClassObj nm q C N bs bm hdct sn sub ab col dd k0 k1 k2 k3 k5 newId)) (hn : h.Ns N mN) (hi : mN "__init__" = some (.ref fI))
    (hfI : h.get? fI = some oI) (hfc : oI.cls = .type "function") (hz : rest.length ≤ sizeLine)
    (hq : ∀ h1 e, h.objs.size ≤ e → Heap.MadeExcOf h h1 e (.ref C) rest → wpAny (model prog w) (A.under (.builtin "type.__call__" ⟨.ref C :: rest, []⟩)) (call (.ref fI) (.ref e :: rest)) (fun r s' => r = .none ∧ Q (.ref e) s') E ⟨h1, g, d, t, os⟩) :
    wpAny (model prog w) A (call (.ref C) rest) Q E ⟨h, g, d, t, os⟩ := by
  have e1 := tc_lookup
  have e2 := tc_bind (.ref C)
  have ty : (⟨h, g, d, t, os⟩ : Shared).TypeIs (.ref C) "type" := ⟨_, hC, rfl⟩
  refine wpAny_call (codeAny_of_tree ?_)
  show wpAny _ _ (callAny (.ref C) _) _ _ _
  repeat (any_goals (first | assumption | with_reducible refine wpAny_loadPart_at hC ?_ | wp_step))
  refine ⟨rfl, ?_⟩
  refine codeAny_call_builtin_at (Code.quiet_builtin _ (by decide +kernel)) entry_typeCall (wpAny_check_type_call_sub hC ?_)
  exact exd_type_call F T hC hn hi hfI hfc hz fun h1 e hl hm => hq h1 e hl hm
end
section
variable {M : Model} {A : Around} {E : Value → Shared → Prop} {env : Env}
variable {nm q : Str} {C N : Addr} {bs bm : List Value} {hdct : Bool} {sn : List Str} {sub : List Value} {ab : Bool} {col : Option Bool} {dd : Option Addr} {k0 k1 k2 k3 k5 : Option Value} {newId : String}
theorem exd_raise {s : Shared} {x : Sem Value} {Q : Flow → Shared → Prop} (hbase : bm.contains (.type "BaseException") = true) (hh : A.handled = none)
    (h : wpAny M A x (fun v s1 => ∃ e oe t, v = .ref e ∧ s1.heap.get? C = some (excClassObj nm q C N bs bm hdct sn sub ab col dd k0 k1 k2 k3 k5 newId) ∧ s1.heap.get? e = some oe ∧ oe.cls = .ref C ∧ oe.data = .fields #[.ref t, .none, .none, .none, .bool false, .none] ∧ E (.ref e) s1) E s) :
    wpAny M A (raiseStmt env (some x) none) Q E s := by
  have hin : (Value.ref C :: bm).contains (.type "BaseException") = true := by rw [List.contains_cons, hbase, Bool.or_true]
  unfold raiseStmt
  refine wpAny_bind (wpAny_mono h (fun v s1 z => ?_) fun _ _ z => z)
  obtain ⟨e, oe, t, rfl, hC, he, hc, hd, hE⟩ := z
  obtain ⟨ocls, odict, odata, oslots⟩ := oe
  simp only at hc hd
  subst hc hd
  obtain ⟨hp, gs, dr, tk, os⟩ := s1
  repeat (first | with_reducible refine wpAny_loadPart_at he ?_ | with_reducible refine wpAny_loadPart_at hC ?_ | (with_reducible refine wpAny_isSubtype_exc hC ?_; rw [hin]) | wp_step)
  exact wpAny_raiseNew_none hh hE
end
end PySem

set_option Elab.async false
set_option linter.all false
set_option maxRecDepth 100000
set_option maxHeartbeats 4000000
namespace L2
open PySem PySem.Spec PySem.Calls PySem.W PyProof.Rows Builtin Builtin.ObjectAttr Builtin.Getset_descriptor
section
variable {P : Program} {w : World} {A : Around} {E : Value → Shared → Prop} {s : Shared} {K : PySem.W.Frag} {x C : Addr} {ox od : Obj} {name : Str} {v : Value}
/-- e.f of an exception of an own class that holds f in its own dict -/
theorem exc_get {expr : Bool} {Q : Value → Shared → Prop} (X : K.In s.heap) (I : InstAt s.heap x ox C (some od)) (hg1 : findIn K (.ref C) "__getattribute__" = some (some (.builtin "BaseException.__getattribute__"))) (hg2 : findIn K (.ref C) "__getattr__" = some none) (hb : mroIn K C (.type "BaseException") = some true)
    (hf : findObj K C (some od) name = some (.value v)) (hh : handedIn v = true) (h : Q v { s with toks := s.toks + 1 }) : wpAny (model P w) A (getAttr (.ref x) name expr) Q E s := by
  have I0 : OfCls s.heap x C := ⟨ox, I.at_, I.cls⟩
  have L0 := I.type (M := model P w)
  have L1 := looks_findIn (M := model P w) X hg1
  have L2 := looks_findIn (M := model P w) X hg2
  have L3 := looks_find (M := model P w) X I hf
  obtain ⟨hp, g, d, t, os⟩ := s
  unfold getAttr getAttrBy
  refine wpAny_bind (wpAny_mkText (wpAny_holding (wpAny_bind (L0.at (wpAny_bind (L1.at ?_))))))
  dsimp only
  rw [if_neg (by intro z; exact absurd (Bool.and_eq_true _ _ ▸ z : _ ∧ _).2 (by decide))]
  unfold getAttrByItsOwn hookBefore
  rw [if_pos (by rfl)]
  refine wpAny_bind (L2.at ?_)
  refine wpAny_bind (wpAny_attempt (wpAny_holding ?_))
  unfold callGetattribute
  rw [if_neg (by intro z; exact absurd (Bool.and_eq_true _ _ ▸ z : _ ∧ _).2 (by decide))]
  unfold boundAndCalled bindSpecial
  rw [type_bx]
  refine wpAny_bind (wpAny_bind (wpAny_pure ?_))
  rw [if_pos (by decide)]
  refine wpAny_pure ?_
  dsimp only [List.cons_append, List.nil_append]
  refine wpAny_call (codeAny_call_builtin plain_bx entry_bx (check_bx (K := K) I0 X hb ?_))
  unfold Builtin.«object.__getattribute__»
  refine wpAny_bind (show wpAny _ _ (pure (Value.ref x, [Value.str name t])) _ _ _ from wpAny_pure ?_)
  dsimp only
  refine wpAny_bind (show wpAny _ _ (pure name) _ _ _ from wpAny_pure ?_)
  refine wpAny_bind (L0.at (wpAny_bind (L3.at ?_)))
  dsimp only
  refine wpAny_pure ?_
  show wpAny _ _ (handedOut v) _ _ _
  rw [handedOut_of hh]
  exact wpAny_pure h
end
end L2

set_option Elab.async false
set_option linter.all false
set_option maxRecDepth 100000
set_option maxHeartbeats 4000000
namespace L2
open PySem PySem.Spec PySem.Calls PySem.W PyProof.Rows Builtin Builtin.ObjectAttr Builtin.Getset_descriptor
/-! ### x.f = v of an exception that has no dict yet -/
def excOver : List Value → Bool
  | .ref _ :: r => excOver r
  | l => l == veMro
theorem refuse_ve (self : Value) : refuseLoop self "__setattr__" veMro = pure () := by kernel_rfl
theorem refuse_exc (self : Value) : ∀ {l : List Value}, excOver l = true → refuseLoop self "__setattr__" l = pure ()
  | .ref c :: r, e => by rw [refuseLoop_ref]; exact refuse_exc self e
  | .type n :: r, e => by rw [show (Value.type n :: r) = veMro from eq_of_beq e]; exact refuse_ve self
  | [], e => by cases e
  | .none :: r, e => by rw [show (Value.none :: r) = veMro from eq_of_beq e]; exact refuse_ve self
  | .bool b :: r, e => by rw [show (Value.bool b :: r) = veMro from eq_of_beq e]; exact refuse_ve self
  | .builtin n :: r, e => by rw [show (Value.builtin n :: r) = veMro from eq_of_beq e]; exact refuse_ve self
  | .int n t :: r, e => by rw [show (Value.int n t :: r) = veMro from eq_of_beq e]; exact refuse_ve self
  | .str n t :: r, e => by rw [show (Value.str n t :: r) = veMro from eq_of_beq e]; exact refuse_ve self
section
variable {P : Program} {w : World} {A : Around} {E : Value → Shared → Prop} {s : Shared} {K : PySem.W.Frag} {x C : Addr} {ox : Obj} {name : Str} {v : Value}
theorem exc_set {cd : ClassData} {Q : Unit → Shared → Prop} (X : K.In s.heap) (I : InstAt s.heap x ox C none) (hnd : ox.dict = none) {vs : Array Value} (hvs : ox.data = .fields vs) (hcd : clsIn K C = some cd) (hov : excOver cd.mro = true) (hdc : cd.hasDict = true) (hm : mroIn K C (.type "object") = some true)
    (hs : findIn K (.ref C) "__setattr__" = some (some (.builtin "object.__setattr__"))) (ha : findIn K (.ref C) name = some none)
    (h : ∀ h1 dx, s.heap.get? dx = none → dx ≠ x → h1.get? x = some { ox with dict := some dx } → h1.Ns1 dx (fun y => if y = name then some v else none) → (∀ b o, s.heap.get? b = some o → b ≠ x → h1.get? b = some o) → Q () { s with heap := h1, toks := s.toks + 2 }) :
    wpAny (model P w) A (setAttr (.ref x) name v) Q E s := by
  have SF := PySem.F.store_object
  have sub : Looks (model P w) s.heap (isInstance (.ref x) (.type "object")) true := I.type.andThen (looks_mroIn X hm)
  have hmr : Looks (model P w) s.heap (mroOf (.ref C)) cd.mro := (looks_clsIn X hcd).andThen .now
  refine set_plain X I hs ?_
  refine codeAny_call_builtin SF.slot.plain SF.entry (@check_slot (model P w) _ _ { s with toks := s.toks + 1 } "object.__setattr__" "object" "__setattr__" (.ref x) [.str name s.toks, v] [] _ SF.kind SF.split sub (SF.args (.ref x) (.str name s.toks) v) ?_)
  rw [osa_eq, refuse_eq]
  refine wpAny_bind (wpAny_bind (I.type.here (s := { s with toks := s.toks + 1 }) (wpAny_bind (hmr.here (s := { s with toks := s.toks + 1 }) ?_))))
  rw [refuse_exc _ hov]
  refine wpAny_pure (wpAny_bind (I.type.here (s := { s with toks := s.toks + 1 }) (wpAny_bind ((looks_findIn X ha).here (s := { s with toks := s.toks + 1 }) (wpAny_bind (wpAny_pure ?_))))))
  show wpAny _ _ (storeInOwnDict (.ref x) (.ref C) (.str name s.toks) name v false) _ _ _
  unfold storeInOwnDict
  refine wpAny_bind (wpAny_pure (wpAny_bind ?_))
  obtain ⟨ocl, odi, oda, osl⟩ := ox
  have e1 : ocl = .ref C := I.cls
  have e2 : odi = none := hnd
  have e3 : oda = .fields vs := hvs
  subst e1 e2 e3
  unfold ownDictForStores instanceDict
  refine wpAny_bind (wpAny_loadPart (s := { s with toks := s.toks + 1 }) I.at_ ?_)
  dsimp only
  refine wpAny_bind (Looks.here (s := { s with toks := s.toks + 1 }) (looks_clsIn X hcd) ?_)
  rw [hdc]
  simp only [Bool.not_true, Bool.false_eq_true, if_false]
  rw [if_neg (show ¬ (false || !typeHasDict (Value.ref C)) = true from Bool.false_ne_true)]
  refine wpAny_bind (wpAny_alloc ?_)
  have g1 : (s.heap.push { cls := Value.type "dict", data := Data.dict #[] }).get? x = some { cls := Value.ref C, data := Data.fields vs, slots := osl } := Heap.get?_push_of_some _ I.at_
  have hne : s.heap.objs.size ≠ x := Nat.ne_of_gt (Heap.lt_size I.at_)
  refine wpAny_bind (wpAny_update (s := { s with heap := s.heap.push { cls := Value.type "dict", data := Data.dict #[] }, toks := s.toks + 1 }) g1 ?_)
  refine wpAny_pure ?_
  dsimp only
  have g2 := Heap.get?_update_self (h := s.heap.push { cls := Value.type "dict", data := Data.dict #[] }) (fun o : Obj => ({ cls := o.cls, dict := some s.heap.objs.size, data := o.data, slots := o.slots } : Obj)) g1 rfl
  have g3 : ((s.heap.push { cls := Value.type "dict", data := Data.dict #[] }).update x fun o : Obj => ({ cls := o.cls, dict := some s.heap.objs.size, data := o.data, slots := o.slots } : Obj)).get? s.heap.objs.size = some { cls := Value.type "dict", data := Data.dict #[] } := by
    rw [Heap.get?_update_other _ _ (Ne.symm hne)]
    exact Heap.get?_push_size _ rfl
  have g4 : ∀ b o, s.heap.get? b = some o → b ≠ x → ((s.heap.push { cls := Value.type "dict", data := Data.dict #[] }).update x fun o : Obj => ({ cls := o.cls, dict := some s.heap.objs.size, data := o.data, slots := o.slots } : Obj)).get? b = some o := fun b o q n => by
    rw [Heap.get?_update_other _ _ (Ne.symm n)]
    exact Heap.get?_push_of_some _ q
  generalize ((s.heap.push { cls := Value.type "dict", data := Data.dict #[] }).update x fun o : Obj => ({ cls := o.cls, dict := some s.heap.objs.size, data := o.data, slots := o.slots } : Obj)) = h2 at *
  have n1 : h2.Ns1 s.heap.objs.size fun _ => none := Heap.Ns1.of_empty ⟨_, _, _, g3, rfl, (fun e he => by simp at he), fun y => rfl⟩
  unfold storeInDict
  refine wpAny_bind (wpAny_pure (wpAny_bind ?_))
  refine wpAny_nsSet1 (s := { s with heap := h2, toks := s.toks + 1 }) n1 fun h3 m3 b3 => ?_
  obtain ⟨oD, esD, epD, hoD, hdD, hcD⟩ := m3.count (ns := [name]) (PySem.Within.cons name v PySem.Within.nil)
  refine wpAny_bind (wpAny_lookBehind hoD (by rw [hdD]; exact pastItsLine_dict (Nat.le_trans hcD (by rw [sizeLine_eq]; show 1 ≤ 16777216 + 1; decide))) ?_)
  refine wpAny_pure ?_
  exact h h3 s.heap.objs.size (Heap.get?_none_of_le (Nat.le_refl _)) hne ((b3.2 x (Ne.symm hne)).trans g2) m3 fun b o q n => (b3.2 b (fun z => by rw [z, Heap.get?_none_of_le (Nat.le_refl _)] at q; cases q)).trans (g4 b o q n)
end
end L2

set_option Elab.async false
set_option linter.all false
set_option maxRecDepth 100000
set_option maxHeartbeats 4000000
namespace L2
open PySem PySem.Spec PyProof.Rows
/-! ### an exception that is being made: tracked while its __init__ runs -/
def ExcO (C ea : Addr) (dc : Option Addr) (h : Heap) : Prop := ∃ t, h.get? ea = some { cls := .ref C, dict := dc, data := .fields #[.ref t, .none, .none, .none, .bool false, .none] }
theorem ExcO.ok {P : Program} {w : World} {H : Hp} {h : Heap} {C ea : Addr} {dc : Option Addr} (x : ExcO C ea dc h) : ObjOk P w H h ea (.ext (ExcO C ea dc)) :=
  ⟨x, let ⟨_, e⟩ := x; ⟨_, e⟩, fun _ _ y k => let ⟨t, e⟩ := y; ⟨t, k _ e⟩⟩
/-- what is known of an own error class with an __init__ of its own -/
def excInI (K : PySem.W.Frag) (C : Addr) (bmB : List Value) (newId : String) (f : Addr) : Bool := match K.lookup C with
  | some ⟨.type "type", _, .cls cd, sl⟩ => (match cd.mro, sl.toList with
    | .ref C' :: bm, [_, _, _, _, some (.builtin n), _] => C' == C && n == newId && !cd.hasDel && PySem.W.tailIn K bmB bm && PySem.W.nsOkIn K cd.ns && PySem.W.nsIn K cd.ns "__init__" == some (some (.ref f)) && PySem.W.isFn K (.ref f)
    | _, _ => false)
  | _ => false
structure ExI (K : PySem.W.Frag) (mg : Str → Option Value) (x : Str) (C f : Addr) : Prop where
  mgx : mg x = some (.ref C)
  ei : excInI K C veMro "ValueError.__new__" f = true
theorem Inv.forget {X : Cx} {pins : List (Addr × Obj)} {σ : St} {H : Hp} {s : Shared} {a : Addr} {φ : Heap → Prop} (I : Inv X pins σ H s) (e : H a = some (.ext φ)) : Inv X pins σ (fun b => if b = a then none else H b) s := by
  have hok : HOk X.prog X.w (fun b => if b = a then none else H b) s.heap := fun b o q => by
    by_cases z : b = a
    · have q2 : (if b = a then none else H b) = some o := q
      rw [if_pos z] at q2; cases q2
    · have q2 : (if b = a then none else H b) = some o := q
      have q' : H b = some o := by rw [if_neg z] at q2; exact q2
      refine (I.hok b o q').stay (fun c u _ r => r) (fun c r => ?_) fun c xs r => ?_
      · show (if c = a then none else H c) = _
        rw [if_neg (fun y => by rw [y, e] at r; cases r)]; exact r
      · show (if c = a then none else H c) = _
        rw [if_neg (fun y => by rw [y, e] at r; cases r)]; exact r
  refine I.un (h' := s.heap) (t' := s.toks) ⟨fun b o q _ _ _ => q, fun b o q _ _ _ => ⟨o.slots, q⟩, fun b o _ n _ => ?_, fun b o q _ => ⟨o, q⟩, fun b xs q => ?_, fun b o u q => ?_, fun b ps q => ⟨#[], ?_⟩⟩ hok
  · show (if b = a then none else H b) = none
    split
    · rfl
    · exact n
  · show (if b = a then none else H b) = _
    rw [if_neg (fun y => by rw [y, e] at q; cases q)]; exact q
  · show (if b = a then none else H b) = _
    rw [if_neg (fun y => by rw [y, e] at q; cases q)]; exact q
  · show (if b = a then none else H b) = _
    rw [if_neg (fun y => by rw [y, e] at q; cases q), q]; simp
theorem ns_val {K : PySem.W.Frag} {h : Heap} {N : Addr} {mg : Str → Option Value} {n : Str} {v : Value} (X : K.In h) (G : h.Ns N mg) (e : PySem.W.nsIn K N n = some (some v)) : mg n = some v := by
  obtain ⟨o, es, ep, ho, hd, _, hf⟩ := G
  unfold PySem.W.nsIn at e
  split at e
  · rename_i q
    have z := (X _ _ q).symm.trans ho
    cases z
    cases hd
    split at e
    · rename_i y he
      cases e
      rw [← hf]
      unfold nsFind findBy
      rw [← Array.find?_toList, he]
      rfl
    · split at e <;> cases e
  · cases e
section
variable {X : Cx} {x : Str} {C f : Addr} {fd : FuncData} {k : Nat} {ps : List Str} {sp : Sp} {E : XK} {e : Expr} {es : List Expr} {t : TA} {np cpos pos : Pos}
def tRaiseI (E : XK) (C : Addr) (sp : Sp) (t : TA) : TS := fun _ σ H => t σ H fun vs H1 => vs.length ≤ sizeLine ∧ ∀ ea, H1 ea = none → sp (.ref ea :: vs) (upd H1 ea (.ext (ExcO C ea none))) (fun v H2 => v = .non ∧ ∃ dc, H2 ea = some (.ext (ExcO C ea dc)) ∧ E (.ref C) dc (fun b => if b = ea then none else H2 b)) E0
/-- raise C(..), C with an __init__ of its own -/
theorem bs_raiseI (hT : Throws X E) (hc : X.calm = true) (c : ExI X.K X.mg x C f) (F : FnOk X.prog X.w X.K X.mg X.base CX0 k f fd ps sp) (hr : Room (k + 1) X.A) (hb : Binds X.K fd ps []) (ha : BA X (e :: es) t) (hg : Gl X x := by rfl) (hdb : (x == ("__debug__" : Str)) = false := by decide) (h1 : isStar e = false := by rfl) (h2 : noStar es = true := by rfl) :
    BS X (.Raise (some (.Call (.Name x np) (e :: es) [] cpos)) none pos) (tRaiseI E C sp t) := ⟨by
  intro pins s σ H D I h
  have q := c.ei
  unfold excInI at q
  split at q
  · rename_i dd cdt sl ho
    split at q
    · rename_i C' bm k0 k1 k2 k3 n k5 hm hs
      simp only [Bool.and_eq_true, beq_iff_eq, Bool.not_eq_true'] at q
      obtain ⟨⟨⟨⟨⟨⟨rfl, rfl⟩, hdel⟩, ht⟩, hok⟩, hni⟩, hfn⟩ := q
      obtain ⟨nm, bs, mro, ns, qn, hd, sn, sub, ab, col, del⟩ := cdt
      dsimp only at hm hdel hok hni
      subst hm hdel
      have hsl : sl = #[k0, k1, k2, k3, some (.builtin "ValueError.__new__"), k5] := by
        obtain ⟨l⟩ := sl
        simp only at hs
        rw [hs]
      subst hsl
      have hOT := PySem.W.tail_of_in I.kIn ht
      have hf := beq_iff_eq.mp hfn
      have hbase := hOT.hasType PySem.F.excBase_ValueError.hasBase
      rw [arm_exec_Raise]
      simp only [evalOpt, Option.map]
      refine wpAny_bind (wpAny_standAt (exd_raise (C := C') (nm := nm) (q := qn) (N := ns) (bs := bs) (bm := bm) (hdct := hd) (sn := sn) (sub := sub) (ab := ab) (col := col) (dd := dd) (k0 := k0) (k1 := k1) (k2 := k2) (k3 := k3) (k5 := k5) (newId := "ValueError.__new__") hbase (I.ok.hd hc) ?_))
      refine wpAny_bind (wpAny_mono (wpAny_Call_ofName (ld_glob I hg c.mgx ?_ hdb)) (fun v s3 h3 => wpAny_bind (wpAny_standAt (wpAny_pure h3))) fun _ _ z => z)
      unfold callWith
      have hA := ha.h cpos pins s σ H _ I h
      rw [star_cons h1] at hA ⊢
      refine wpAny_bind (wpAny_holding (Calls.evalArgs_plain (thn hA fun us s1 ⟨vs, H1, I1, rv, hz, hE⟩ => wpAny_bind (wpAny_standAt ?_))))
      have hplain : (backTo cpos ((false, eval e X.env) :: starEach es X.env)).any (·.1) = false := by
        show (false || (backTo cpos (starEach es X.env)).any (·.1)) = false
        rw [star_any h2]
        rfl
      simp only [hplain]
      have hC1 := I1.kIn _ _ ho
      obtain ⟨oI, hfo, hfc⟩ : ∃ oI : Obj, s1.heap.get? f = some oI ∧ oI.cls = .type "function" := by
        have hf2 : (X.K.lookup f).map (fun o => o.cls) = some (.type "function") := hf
        obtain ⟨oI, q1, q2⟩ := Option.map_eq_some_iff.mp hf2
        exact ⟨oI, I1.kIn _ _ q1, q2⟩
      have hns : s1.heap.Ns ns (s1.heap.nsMap ns) := .of_isNs (PySem.W.isNs_of_in I1.kIn hok)
      have hin := ns_val I1.kIn hns hni
      have hT1 := PySem.W.tail_of_in I1.kIn ht
      have hl1 : us.length ≤ sizeLine := by rw [← rv.length]; exact hz
      obtain ⟨hp, g, d, tk, os⟩ := s1
      refine wpAny_bind (wpAny_keeperOf_exc hC1 ?_)
      refine wpAny_bind (exd_call PySem.F.excBase_ValueError hT1 hC1 hns hin hfo hfc hl1 fun h3 ea hle hm => ?_)
      obtain ⟨t0, he3, _, _⟩ := hm.there
      have I2 : Inv X pins σ (upd H1 ea (.ext (ExcO C' ea none))) ⟨h3, g, d, tk, os⟩ := I1.laid (a := ea) (o := .ext (ExcO C' ea none)) (t' := tk) hm.keeps hle (ExcO.ok ⟨t0, he3⟩)
      have hsp := hE ea (I1.hok.fresh hle)
      have r2 : Vals (V.ref ea :: vs) (Value.ref ea :: us) := .cons rfl rv
      have hl : (Value.ref ea :: us ++ []).length = ps.length := by
        rw [List.append_nil, ← r2.length]
        exact F.len _ _ _ _ hsp
      have hbb := hb ⟨h3, g, d, tk, os⟩ (Value.ref ea :: us) I2.kIn hl
      rw [List.append_nil] at hbb
      refine wpAny_call (codeAny_mono (F.run _ X.stack _ _ ⟨Value.ref ea :: us, []⟩ (Value.ref ea :: us) _ _ E0 (hr.make C' us []) (I2.env0.make C' us []) hbb r2 hsp) fun r s' hq' => ?_)
      cases r with
      | error e' => exact False.elim hq'
      | ok fl =>
        cases fl with
        | ret u =>
          obtain ⟨v, H', I3, rv', ev, dc, q3, hE3⟩ := I2.after hq'
          subst ev
          refine ⟨rv', wpAny_bind (wpAny_holding (wpAny_point (wpAny_pure ?_)))⟩
          obtain ⟨⟨t1, he1⟩, _⟩ := I3.hok ea _ q3
          exact ⟨ea, _, t1, rfl, I3.kIn _ _ ho, he1, rfl, rfl, hT pins σ _ H1 s' _ ea _ (.ref t1) _ [.none, .none, .bool false, .none] dc (I3.forget q3) I1 hm.new he1 rfl rfl rfl (if_pos rfl) hE3⟩
        | next => exact False.elim hq'
        | brk => exact False.elim hq'
        | cont => exact False.elim hq'
    · cases q
  · cases q⟩
end
end L2

set_option Elab.async false
set_option linter.all false
set_option maxRecDepth 100000
set_option maxHeartbeats 4000000
namespace L2
open PySem PySem.Spec PyProof.Rows
/-- what storing a field of its own asks of an own error class -/
structure ExF (K : PySem.W.Frag) (C : Addr) (f : Str) : Prop where
  cd : ∃ cd, PySem.W.clsIn K C = some cd ∧ excOver cd.mro = true ∧ cd.hasDict = true
  hm : PySem.W.mroIn K C (.type "object") = some true
  hs : PySem.W.findIn K (.ref C) "__setattr__" = some (some (.builtin "object.__setattr__"))
  ha : PySem.W.findIn K (.ref C) f = some none
section
variable {X : Cx} {o value : Expr} {f : Str} {pos pos' : Pos} {ta tv : TE}
def sXfld (K : PySem.W.Frag) (ta tv : TE) (f : Str) : TS := fun D σ H => tv σ H fun y H1 => ta σ H1 fun x H2 => ∃ a C, x = .ref a ∧ H2 a = some (.ext (ExcO C a none)) ∧ ExF K C f ∧ ∀ dx, H2 dx = none → dx ≠ a → D.nx σ (upd (upd H2 dx (.xd [(f, y)])) a (.ext (ExcO C a (some dx))))
/-- self.f = value, of an exception that is being made -/
theorem bs_xfld (ha : BE X o ta) (hv : BE X value tv) (hs : swapsWith value (some (.Attribute o f pos')) pos.line X.env = pure false := by rfl) : BS X (.Assign [.Attribute o f pos'] value pos) (sXfld X.K ta tv f) := ⟨by
  intro pins s σ H D I h
  refine plainObj_wpAny_Assign_Attribute (thn (hv.h pins s σ H _ I h) fun u s1 ⟨y, H1, I1, ry, q⟩ => thn (ha.h pins s1 σ H1 _ I1 q) fun ov s2 ⟨x, H2, I2, rx, a, C, ex, ea, c, q2⟩ => ?_) hs
  subst ex
  obtain rfl : ov = Value.ref a := rx
  obtain ⟨⟨t, e0⟩, _⟩ := I2.hok a _ ea
  obtain ⟨cd, c1, c2, c3⟩ := c.cd
  refine exc_set (ox := { cls := .ref C, dict := none, data := .fields #[.ref t, .none, .none, .none, .bool false, .none] }) I2.kIn ⟨e0, rfl, rfl, trivial⟩ rfl rfl c1 c2 c3 c.hm c.hs c.ha fun h1 dx nd ne g1 g2 g3 => ?_
  have ndx : H2 dx = none := I2.hok.none_of nd
  have hok : HOk X.prog X.w (upd (upd H2 dx (.xd [(f, y)])) a (.ext (ExcO C a (some dx)))) h1 := fun b w' q => by
    by_cases z : b = a
    · subst z
      rw [upd_same] at q
      cases q
      exact ExcO.ok ⟨t, g1⟩
    · rw [upd_ne z] at q
      by_cases z2 : b = dx
      · subst z2
        rw [upd_same] at q
        cases q
        refine ⟨_, g2, fun y' => ?_⟩
        by_cases zy : y' = f
        · subst zy
          rw [if_pos rfl, show List.lookup y' [(y', y)] = some y from by simp [List.lookup]]
          exact ry
        · rw [if_neg zy, show List.lookup y' [(f, y)] = none from by
            show (match y' == f with | true => some y | false => none) = none
            rw [show (y' == f) = false from Bool.eq_false_iff.mpr fun zz => zy (eq_of_beq zz)]]
          trivial
      · rw [upd_ne z2] at q
        refine (I2.hok b w' q).stay (fun c' u' hc r => g3 c' u' r fun zz => ?_) (fun c' r => ?_) fun c' xs r => ?_
        · rcases hc with hc | hc
          · exact z (hc.symm.trans zz)
          · rw [zz, ea] at hc; cases hc
        · rw [upd_ne (fun zz => by rw [zz, ea] at r; cases r), upd_ne (fun zz => by rw [zz, ndx] at r; cases r)]; exact r
        · rw [upd_ne (fun zz => by rw [zz, ea] at r; cases r), upd_ne (fun zz => by rw [zz, ndx] at r; cases r)]; exact r
  have un : Un X.fs [] H2 (upd (upd H2 dx (.xd [(f, y)])) a (.ext (ExcO C a (some dx)))) s2.heap h1 := by
    have na : ∀ b, H2 b = none → b ≠ a := fun b n zz => by rw [zz, ea] at n; cases n
    have nx : ∀ b w', H2 b = some w' → b ≠ dx := fun b w' n zz => by rw [zz, ndx] at n; cases n
    refine ⟨fun b o' q n _ _ => g3 b o' q (na b n), fun b o' q n _ _ => ⟨o'.slots, g3 b o' q (na b n)⟩, fun b o' q n _ => ?_, fun b o' q _ => ?_, fun b xs q => ?_, fun b o' u' q => ?_, fun b ps q => ⟨#[], ?_⟩⟩
    · rw [upd_ne (na b n), upd_ne (fun zz => by rw [zz, nd] at q; cases q)]; exact n
    · by_cases z : b = a
      · exact ⟨_, by rw [z]; exact g1⟩
      · exact ⟨o', g3 b o' q z⟩
    · rw [upd_ne (fun zz => by rw [zz, ea] at q; cases q), upd_ne (nx b _ q)]; exact q
    · rw [upd_ne (fun zz => by rw [zz, ea] at q; cases q), upd_ne (nx b _ q)]; exact q
    · rw [upd_ne (fun zz => by rw [zz, ea] at q; cases q), upd_ne (nx b _ q), q]; simp
  exact ⟨σ, _, I2.un (h' := h1) (t' := s2.toks + 2) un hok, q2 dx ndx ne⟩⟩
end
/-- what reading a field of its own asks of an own error class -/
structure ExG (K : PySem.W.Frag) (C : Addr) (f : Str) : Prop where
  hg1 : PySem.W.findIn K (.ref C) "__getattribute__" = some (some (.builtin "BaseException.__getattribute__"))
  hg2 : PySem.W.findIn K (.ref C) "__getattr__" = some none
  hb : PySem.W.mroIn K C (.type "BaseException") = some true
  hd : PySem.W.hasDictIn K C = true
  ha : PySem.W.findIn K (.ref C) f = some none
section
variable {X : Cx} {e : Expr} {f : Str} {pos : Pos} {ta : TE} {ea C : Addr} {oe : Obj} {dc : Option Addr}
def tXfld (K : PySem.W.Frag) (C ea : Addr) (dc : Option Addr) (ta : TE) (f : Str) : TE := fun σ H Q => ta σ H fun x H1 => x = .ref ea ∧ ExG K C f ∧ ∃ dx fs v, dc = some dx ∧ H1 dx = some (.xd fs) ∧ fs.lookup f = some v ∧ Q v H1
/-- e.f of an exception that is held -/
theorem be_xfld (he : BE X e ta) (hp : (ea, oe) ∈ X.pn) (hc : oe.cls = .ref C) (hdc : oe.dict = dc) (hn : PySem.W.notCls oe = true) (hb : attributeBase e f X.env (eval e X.env) = eval e X.env := by rfl) : BE X (.Attribute e f pos) (tXfld X.K C ea dc ta f) := ⟨by
  intro pins s σ H Q I h
  refine attr_of hb (thn (he.h pins s σ H _ I h) fun u s1 ⟨x, H1, I1, rx, ex, g, dx, fs, v, e1, e2, l, q⟩ => ?_)
  subst ex
  obtain rfl : u = Value.ref ea := rx
  subst e1
  obtain ⟨mA, n1, r⟩ := (show ObjOk X.prog X.w H1 s1.heap dx (.xd fs) from I1.hok dx _ e2)
  obtain ⟨u, hu, ru⟩ := RelO.some_of (v := v) (o := mA f) (by rw [← l]; exact r f)
  obtain ⟨od, ho, hl⟩ := lookIn_ns n1
  have at_ := (I1.pin (ea, oe) (List.mem_append_left _ hp)).1
  refine exc_get (ox := oe) (od := od) I1.kIn ⟨at_, hc, hn, by rw [hdc]; exact ho⟩ g.hg1 g.hg2 g.hb (PySem.W.findObj_own g.hd g.ha rfl (by rw [hl, hu])) (handed_of ru) ⟨v, H1, I1.tok _, ru, q⟩⟩
/-- the same, the text's facts being named -/
theorem be_xfldK {K : PySem.W.Frag} (hK : X.K = K) (he : BE X e ta) (hp : (ea, oe) ∈ X.pn) (hc : oe.cls = .ref C) (hdc : oe.dict = dc) (hn : PySem.W.notCls oe = true) (hb : attributeBase e f X.env (eval e X.env) = eval e X.env := by rfl) : BE X (.Attribute e f pos) (tXfld K C ea dc ta f) := hK ▸ be_xfld he hp hc hdc hn hb
end
end L2

set_option Elab.async false
set_option linter.all false
set_option maxRecDepth 100000
set_option maxHeartbeats 4000000
namespace L2
open PySem PySem.Spec PyProof.Rows
/-- the class that is called upward: its __init__ is ValueError's -/
structure ExU (K : PySem.W.Frag) (mg : Str → Option Value) (x : Str) (B : Addr) : Prop where
  mgx : mg x = some (.ref B)
  rd : PySem.W.readsIn K B (.type "type") = true
  fc : PySem.W.findCls K (.ref B) (.type "type") "__init__" = some (.val (.builtin "ValueError.__init__"))
  ga : PySem.W.specialIn K (.ref B) "__getattribute__" = some (some (.builtin "type.__getattribute__"))
theorem exc_cls {K : PySem.W.Frag} {h : Heap} {C f : Addr} (X : K.In h) (q : excInI K C veMro "ValueError.__new__" f = true) :
    ∃ nm qn N bs bm hd sn sub ab col dd k0 k1 k2 k3 k5, h.get? C = some (excClassObj nm qn C N bs bm hd sn sub ab col dd k0 k1 k2 k3 k5 "ValueError.__new__") ∧ OwnTail h veMro bm := by
  unfold excInI at q
  split at q
  · rename_i dd cdt sl ho
    split at q
    · rename_i C' bm k0 k1 k2 k3 n k5 hm hs
      simp only [Bool.and_eq_true, beq_iff_eq, Bool.not_eq_true'] at q
      obtain ⟨⟨⟨⟨⟨⟨rfl, rfl⟩, hdel⟩, ht⟩, hok⟩, hni⟩, hfn⟩ := q
      obtain ⟨nm, bs, mro, ns, qn, hd, sn, sub, ab, col, del⟩ := cdt
      dsimp only at hm hdel hok hni
      subst hm hdel
      have hsl : sl = #[k0, k1, k2, k3, some (.builtin "ValueError.__new__"), k5] := by
        obtain ⟨l⟩ := sl
        simp only at hs
        rw [hs]
      subst hsl
      exact ⟨nm, qn, ns, bs, bm, hd, sn, sub, ab, col, dd, k0, k1, k2, k3, k5, X _ _ ho, PySem.W.tail_of_in X ht⟩
    · cases q
  · cases q
section
variable {X : Cx} {x : Str} {B : Addr} {e : Expr} {es : List Expr} {t : TA} {np apos cpos : Pos}
def tUp (K : PySem.W.Frag) (t : TA) : TE := fun σ H Q => t σ H fun vs H1 => ∃ ea C dc v f, vs = [.ref ea, v] ∧ H1 ea = some (.ext (ExcO C ea dc)) ∧ excInI K C veMro "ValueError.__new__" f = true ∧ Q .non H1
/-- B.__init__(self, v), B an own error class without an __init__ of its own -/
theorem be_up {pl : Sem Bool} (c : ExU X.K X.mg x B) (ha : BA X (e :: es) t) (hg : Gl X x := by rfl) (hdb : (x == ("__debug__" : Str)) = false := by decide) (h1 : isStar e = false := by rfl) (h2 : noStar es = true := by rfl)
    (ht : eval (.Call (.Attribute (.Name x np) "__init__" apos) (e :: es) [] cpos) X.env = (do
      let ov ← eval (.Name x np) X.env
      standAt apos.atName
      let (f, first) ← holding [ov] (getMethod ov "__init__" pl)
      callWith cpos f first (backTo cpos (starEach (e :: es) X.env)) (backToKw cpos (keywordEach [] X.env))) := by rfl) :
    BE X (.Call (.Attribute (.Name x np) "__init__" apos) (e :: es) [] cpos) (tUp X.K t) := ⟨by
  intro pins s σ H Q I h
  refine PySem.W.methodCall_KW (pl := pl) (ld_glob I hg c.mgx ?_ hdb) ht
  refine PySem.W.method_cls I.kIn c.ga (PySem.W.cls_value I.kIn c.rd c.fc rfl ?_)
  refine PyProof.Rows.callWith_builtin1 (thn (ha.h cpos pins _ σ H _ (I.tok _) h) fun us s1 ⟨vs, H1, I1, rv, ea, C, dc, v, f, e1, e2, e3, q⟩ => ?_) (star_cons h1) (star_any h2)
  subst e1
  obtain ⟨w1, u, rfl, r1, r2⟩ := vals2 rv
  obtain rfl : w1 = Value.ref ea := r1
  obtain ⟨⟨t0, he⟩, _⟩ := I1.hok ea _ e2
  obtain ⟨nm, qn, N, bs, bm, hd, sn, sub, ab, col, dd, k0, k1, k2, k3, k5, hC, hT⟩ := exc_cls I1.kIn e3
  have F := PySem.F.excBase_ValueError
  obtain ⟨hp, g, d, tk, os⟩ := s1
  refine wpAny_call (codeAny_call_builtin F.init.plain F.initEntry (wpAny_check_init_subT F hT hC he rfl ?_))
  wp_walk
  show EP X pins σ Q .none ⟨(hp.push { cls := Value.type "tuple", data := Data.seq #[u] }).update ea (Obj.mapFields fun x => x.setIfInBounds 0 (Value.ref hp.objs.size)), g, d, tk, os⟩
  have g1 : (hp.push { cls := Value.type "tuple", data := Data.seq #[u] }).get? ea = some { cls := Value.ref C, dict := dc, data := Data.fields #[Value.ref t0, Value.none, Value.none, Value.none, Value.bool false, Value.none] } := Heap.get?_push_of_some _ he
  have g2 := Heap.get?_update_self (Obj.mapFields fun x => x.setIfInBounds 0 (Value.ref hp.objs.size)) g1 rfl
  have ux : upd H1 ea (.ext (ExcO C ea dc)) = H1 := funext fun b => by
    by_cases z : b = ea
    · subst z; rw [upd_same, e2]
    · rw [upd_ne z]
  have W := I1.write (x := ea) (e := ea) (o := .ext (ExcO C ea dc)) (t' := tk) (h' := (hp.push { cls := Value.type "tuple", data := Data.seq #[u] }).update ea (Obj.mapFields fun x => x.setIfInBounds 0 (Value.ref hp.objs.size))) (by rw [e2]; trivial) (.inl rfl)
    (fun b w' n q' => by rw [Heap.get?_update_other _ _ (Ne.symm n)]; exact Heap.get?_push_of_some _ q') ⟨_, g2⟩ (ExcO.ok ⟨hp.objs.size, g2⟩)
  rw [ux] at W
  exact ⟨.non, H1, W, rfl, q⟩⟩
end
end L2

set_option Elab.async false
set_option linter.all false
set_option maxRecDepth 100000
set_option maxHeartbeats 4000000
namespace L2
open PySem PySem.Spec PyProof.Rows
/-! ### the readings of exceptions with fields, step by step; what is asked of their classes, as rows that the text decides -/
section
variable {K : PySem.W.Frag} {σ : St} {H : Hp} {D : Ends} {E : XK} {C ea : Addr} {dc : Option Addr} {Q : VK} {t : TA} {ta tv : TE} {f : Str} {sp : Sp}
instance x1 : RdS (tUp K t σ H Q) (t σ H fun vs H1 => ∃ ea C dc v f, vs = [.ref ea, v] ∧ H1 ea = some (.ext (ExcO C ea dc)) ∧ excInI K C veMro "ValueError.__new__" f = true ∧ Q .non H1) := ⟨id⟩
instance x2 : RdS (sXfld K ta tv f D σ H) (tv σ H fun y H1 => ta σ H1 fun x H2 => ∃ a C, x = .ref a ∧ H2 a = some (.ext (ExcO C a none)) ∧ ExF K C f ∧ ∀ dx, H2 dx = none → dx ≠ a → D.nx σ (upd (upd H2 dx (.xd [(f, y)])) a (.ext (ExcO C a (some dx))))) := ⟨id⟩
instance x3 : RdS (tXfld K C ea dc ta f σ H Q) (ta σ H fun x H1 => x = .ref ea ∧ ExG K C f ∧ ∃ dx fs v, dc = some dx ∧ H1 dx = some (.xd fs) ∧ fs.lookup f = some v ∧ Q v H1) := ⟨id⟩
instance x4 : RdS (tRaiseI E C sp t D σ H) (t σ H fun vs H1 => vs.length ≤ sizeLine ∧ ∀ ea, H1 ea = none → sp (.ref ea :: vs) (upd H1 ea (.ext (ExcO C ea none))) (fun v H2 => v = .non ∧ ∃ dc, H2 ea = some (.ext (ExcO C ea dc)) ∧ E (.ref C) dc (fun b => if b = ea then none else H2 b)) E0) := ⟨id⟩
end
def excFd (K : PySem.W.Frag) (C : Addr) : Bool := (PySem.W.clsIn K C).any fun cd => excOver cd.mro && cd.hasDict
theorem exF_of {K : PySem.W.Frag} {C : Addr} {f : Str} (h : excFd K C = true) (hm : PySem.W.mroIn K C (.type "object") = some true) (hs : PySem.W.findIn K (.ref C) "__setattr__" = some (some (.builtin "object.__setattr__"))) (ha : PySem.W.findIn K (.ref C) f = some none) : ExF K C f := by
  refine ⟨?_, hm, hs, ha⟩
  unfold excFd at h
  cases e : PySem.W.clsIn K C with
  | none => rw [e] at h; cases h
  | some cd =>
    rw [e] at h
    have h' : (excOver cd.mro && cd.hasDict) = true := h
    rw [Bool.and_eq_true] at h'
    exact ⟨cd, rfl, h'.1, h'.2⟩
/-- what the __init__ of an error class with one field promises -/
def spInit (C : Addr) (f : Str) : Sp := fun vs H Q _ => ∃ ea v, vs = [.ref ea, v] ∧ H ea = some (.ext (ExcO C ea none)) ∧ ∀ dx, H dx = none → dx ≠ ea → Q .non (upd (upd H dx (.xd [(f, v)])) ea (.ext (ExcO C ea (some dx))))
/-- raise C(v): what is thrown has a dict of its own, with the field -/
theorem rd_raiseI {H : Hp} {E : XK} {C : Addr} {f : Str} {v : V} (h : ∀ dx H', Same H H' → H dx = none → H' dx = some (.xd [(f, v)]) → E (.ref C) (some dx) H') :
    [v].length ≤ sizeLine ∧ ∀ ea, H ea = none → spInit C f (.ref ea :: [v]) (upd H ea (.ext (ExcO C ea none))) (fun v H2 => v = .non ∧ ∃ dc, H2 ea = some (.ext (ExcO C ea dc)) ∧ E (.ref C) dc (fun b => if b = ea then none else H2 b)) E0 := by
  refine ⟨by show 1 ≤ sizeLine; rw [sizeLine_eq]; decide, fun ea n => ⟨ea, v, rfl, upd_same, fun dx n1 n2 => ⟨rfl, some dx, upd_same, ?_⟩⟩⟩
  have nd : H dx = none := by rw [upd_ne n2] at n1; exact n1
  refine h dx _ (fun b o e => ?_) nd ?_
  · have b1 : b ≠ ea := fun z => by rw [z, n] at e; cases e
    have b2 : b ≠ dx := fun z => by rw [z, nd] at e; cases e
    show (if b = ea then none else upd (upd (upd H ea (.ext (ExcO C ea none))) dx (.xd [(f, v)])) ea (.ext (ExcO C ea (some dx))) b) = some o
    rw [if_neg b1, upd_ne b1, upd_ne b2, upd_ne b1]
    exact e
  · show (if dx = ea then none else upd (upd (upd H ea (.ext (ExcO C ea none))) dx (.xd [(f, v)])) ea (.ext (ExcO C ea (some dx))) dx) = _
    rw [if_neg n2, upd_ne n2, upd_same]
end L2

set_option Elab.async false
set_option linter.all false
set_option maxRecDepth 100000
set_option maxHeartbeats 4000000
namespace L2
open PySem PySem.Spec PyProof.Rows
section
variable {X : Cx} {K : PySem.W.Frag} {σ : St} {H : Hp} {Q : VK} {o e : Expr} {es : List Expr} {to te : TE} {t : TA} {apos cpos pos p2 : Pos}
/-! ### text.upper(), of which the length alone is kept -/
def rUpper : V → List V → Hp → VK → Prop := fun x vs H Q => ∃ z : Str, x = .str z ∧ vs = [] ∧ (∀ c ∈ z.cps.toList, c < 128) ∧ z.length ≤ 100000 ∧ ∀ y : Str, y.length = z.length → Q (.str y) H
theorem upper_len {z : Str} (h : ∀ c ∈ z.cps.toList, c < 128) : (Txt.upper z).length = z.length := by
  rw [upper_ascii h]
  show (Array.map up1 z.cps).size = z.cps.size
  exact Array.size_map ..
theorem mt_upper : MtM X "str.upper" rUpper := by
  intro pins s σ H x vs v us Q I rx rv h
  obtain ⟨z, rfl, rfl, hz, hl, q⟩ := h
  obtain ⟨t, rfl⟩ := rx
  cases rv
  refine SC.upper ?_ ⟨.str (Txt.upper z), H, I.tok _, ⟨_, rfl⟩, q _ (upper_len hz)⟩
  rw [upper_len hz]
  unfold Builtin.Str.tooLong
  simp
  rw [sizeLine_eq]; omega
theorem rd_upper {z : Str} (h1 : ∀ c ∈ z.cps.toList, c < 128) (h2 : z.length ≤ 100000) (h : ∀ y : Str, y.length = z.length → Q (.str y) H) : rUpper (.str z) [] H Q := ⟨z, rfl, rfl, h1, h2, h⟩
theorem bm_upper (ho : BE X o to) (hbase : attributeBase o "upper" X.env (eval o X.env) = eval o X.env := by rfl) (hline : (apos.endLine == cpos.line) = true := by rfl) :
    BE X (.Call (.Attribute o "upper" apos) [] [] cpos) (tBM0 X.K "str" rUpper to) :=
  ⟨pe_bm0 F.plainAttrs_str F.slot_str_upper F.type_str_upper mt_upper ho.h hbase hline⟩
end
end L2

set_option Elab.async false
set_option linter.all false
set_option maxRecDepth 100000
set_option maxHeartbeats 4000000
namespace T53
open PySem L2

def top (i : Nat) : Stmt := PySem.Challenge.pw_tierstore_k53_tiers_refused.main.body.getD i (.Pass ⟨0, 0, 0, 0⟩)
abbrev s_are_figures : Stmt := top 17
abbrev s_read_padded : Stmt := top 18
abbrev s_read_figures : Stmt := top 19
abbrev s_text_of_rows : Stmt := top 22
abbrev s_rows_of : Stmt := top 23
abbrev s_row_at : Stmt := top 24
abbrev s_read_number : Stmt := top 31
abbrev s_read_tier : Stmt := top 32
abbrev s_are_unlike : Stmt := top 33
abbrev s_read_all_tiers : Stmt := top 34
abbrev s_read_tiers : Stmt := top 35
abbrev s__law_whole : Stmt := top 37
abbrev s__law_cell_at : Stmt := top 38
abbrev s__law_mixed : Stmt := top 39
abbrev s__law_tiers : Stmt := top 40
abbrev s__law_text : Stmt := top 41
abbrev s__law_number : Stmt := top 42
abbrev s__law_line : Stmt := top 43
abbrev s__law_due : Stmt := top 44
abbrev s__law_signs : Stmt := top 45
abbrev s__law_spoilt : Stmt := top 46
abbrev s__law_told : Stmt := top 47
abbrev s__law_field : Stmt := top 48
abbrev s_law : Stmt := top 49
abbrev s_BadTiers_init : Stmt := inClass (top 10) 0
structure Cs where
  TierError : Addr
  BadKey : Addr
  BadValue : Addr
  BadDeed : Addr
  BadStamp : Addr
  BadSieve : Addr
  BadRow : Addr
  BadRun : Addr
  BadJournal : Addr
  BadTiers : Addr
  NoFile : Addr
  Stopped : Addr
  NoSnapshot : Addr
  BadFile : Addr
  BadTiers_init : Addr
structure Cl (K : PySem.W.Frag) (mg : Str → Option Value) (c : Cs) : Prop where
  m_TierError : mg "TierError" = some (.ref c.TierError)
  m_BadKey : mg "BadKey" = some (.ref c.BadKey)
  m_BadValue : mg "BadValue" = some (.ref c.BadValue)
  m_BadDeed : mg "BadDeed" = some (.ref c.BadDeed)
  m_BadStamp : mg "BadStamp" = some (.ref c.BadStamp)
  m_BadSieve : mg "BadSieve" = some (.ref c.BadSieve)
  m_BadRow : mg "BadRow" = some (.ref c.BadRow)
  m_BadRun : mg "BadRun" = some (.ref c.BadRun)
  m_BadJournal : mg "BadJournal" = some (.ref c.BadJournal)
  m_BadTiers : mg "BadTiers" = some (.ref c.BadTiers)
  m_NoFile : mg "NoFile" = some (.ref c.NoFile)
  m_Stopped : mg "Stopped" = some (.ref c.Stopped)
  m_NoSnapshot : mg "NoSnapshot" = some (.ref c.NoSnapshot)
  m_BadFile : mg "BadFile" = some (.ref c.BadFile)
  xi_BadTiers : excInI K c.BadTiers veMro "ValueError.__new__" c.BadTiers_init = true
  ur_TierError : PySem.W.readsIn K c.TierError (.type "type") = true
  uf_TierError : PySem.W.findCls K (.ref c.TierError) (.type "type") "__init__" = some (.val (.builtin "ValueError.__init__"))
  ug_TierError : PySem.W.specialIn K (.ref c.TierError) "__getattribute__" = some (some (.builtin "type.__getattribute__"))
  fd_BadTiers : excFd K c.BadTiers = true
  hm_BadTiers : PySem.W.mroIn K c.BadTiers (.type "object") = some true
  hs_BadTiers : PySem.W.findIn K (.ref c.BadTiers) "__setattr__" = some (some (.builtin "object.__setattr__"))
  hf_BadTiers : PySem.W.findIn K (.ref c.BadTiers) "line" = some none
  tt : PySem.W.kitCls K (.ref c.BadTiers) (.ref c.TierError) = some true
  tb_TierError : PySem.W.kitCls K (.ref c.TierError) (.type "BaseException") = some true
  tb_BadTiers : PySem.W.kitCls K (.ref c.BadTiers) (.type "BaseException") = some true
  hg1 : PySem.W.findIn K (.ref c.BadTiers) "__getattribute__" = some (some (.builtin "BaseException.__getattribute__"))
  hg2 : PySem.W.findIn K (.ref c.BadTiers) "__getattr__" = some none
  hb : PySem.W.mroIn K c.BadTiers (.type "BaseException") = some true
  ha : PySem.W.findIn K (.ref c.BadTiers) "__class__" = some (some (.builtin "object.__class__"))
  hn : PySem.W.specialIn K (.builtin "object.__class__") "__get__" = some (some (.builtin "getset_descriptor.__get__"))
  ht : PySem.W.takesIn K (.builtin "object.__class__") = some true
  hk : PySem.W.kitCls K (.ref c.BadTiers) (.ref c.BadTiers) = some true
  o1 : PySem.W.kitAny K (.ref c.BadTiers) [.ref c.BadDeed, .ref c.BadFile, .ref c.BadJournal, .ref c.BadKey, .ref c.BadRow, .ref c.BadRun, .ref c.BadSieve, .ref c.BadStamp] = some false
  o2 : PySem.W.kitAny K (.ref c.BadTiers) [.ref c.BadValue, .ref c.NoFile, .ref c.NoSnapshot, .ref c.Stopped] = some false
  o4 : PySem.W.kitOne K (.ref c.BadTiers) (.type "ValueError") = some true
  hd : PySem.W.hasDictIn K c.BadTiers = true
  i_BadTiers : ∃ fd, Fun K "__init__" "BadTiers.__init__" s_BadTiers_init c.BadTiers_init fd ∧ Binds K fd ["self", "line"] []
structure Txt (K : PySem.W.Frag) (mg : Str → Option Value) : Prop where
  f_are_figures : HasFn K mg "are_figures" s_are_figures ["text"]
  f_read_padded : HasFn K mg "read_padded" s_read_padded ["text", "least", "most"]
  f_read_figures : HasFn K mg "read_figures" s_read_figures ["text", "least", "most"]
  f_text_of_rows : HasFn K mg "text_of_rows" s_text_of_rows ["rows"]
  f_rows_of : HasFn K mg "rows_of" s_rows_of ["text"]
  f_row_at : HasFn K mg "row_at" s_row_at ["rows", "line"]
  f_read_number : HasFn K mg "read_number" s_read_number ["rows", "line", "ahead", "least", "most"]
  f_read_tier : HasFn K mg "read_tier" s_read_tier ["row", "fresh"]
  f_are_unlike : HasFn K mg "are_unlike" s_are_unlike ["numbers"]
  f_read_all_tiers : HasFn K mg "read_all_tiers" s_read_all_tiers ["rows", "fresh"]
  f_read_tiers : HasFn K mg "read_tiers" s_read_tiers ["text"]
  f__law_whole : HasFn K mg "_law_whole" s__law_whole ["_law_found"]
  f__law_cell_at : HasFn K mg "_law_cell_at" s__law_cell_at ["_law_script", "_law_k"]
  f__law_mixed : HasFn K mg "_law_mixed" s__law_mixed ["_law_cell", "_law_k"]
  f__law_tiers : HasFn K mg "_law_tiers" s__law_tiers ["_law_script"]
  f__law_text : HasFn K mg "_law_text" s__law_text ["_law_tiers_here"]
  f__law_number : HasFn K mg "_law_number" s__law_number ["_law_word", "_law_least", "_law_most"]
  f__law_line : HasFn K mg "_law_line" s__law_line ["_law_words", "_law_place", "_law_fresh", "_law_used"]
  f__law_due : HasFn K mg "_law_due" s__law_due ["_law_text_here"]
  f__law_signs : HasFn K mg "_law_signs" s__law_signs ["_law_text_here", "_law_cell", "_law_way"]
  f__law_spoilt : HasFn K mg "_law_spoilt" s__law_spoilt ["_law_lines", "_law_cell", "_law_way"]
  f__law_told : HasFn K mg "_law_told" s__law_told ["_law_text_here"]
  f__law_field : HasFn K mg "_law_field" s__law_field ["_law_text_here"]
  g_FIGURES : ∃ u, mg "FIGURES" = some u ∧ RelV (.str (PySem.Str.ofString "0123456789")) u
  g_GREATEST_STAMP : ∃ u, mg "GREATEST_STAMP" = some u ∧ RelV (.int 999999999) u
  g_GREATEST_NUMBER : ∃ u, mg "GREATEST_NUMBER" = some u ∧ RelV (.int 9999999) u
  g_FRESH_LINE : ∃ u, mg "FRESH_LINE" = some u ∧ RelV (.int 1) u
  g_POURED_LINE : ∃ u, mg "POURED_LINE" = some u ∧ RelV (.int 2) u
  g_FIRST_TIER_LINE : ∃ u, mg "FIRST_TIER_LINE" = some u ∧ RelV (.int 3) u
  g_LAST_LINE : ∃ u, mg "LAST_LINE" = some u ∧ RelV (.int 5) u
  b_ValueError : mg "ValueError" = none
  b_all : mg "all" = none
  b_bool : mg "bool" = none
  b_e : mg "e" = none
  b_int : mg "int" = none
  b_isinstance : mg "isinstance" = none
  b_len : mg "len" = none
  b_max : mg "max" = none
  b_min : mg "min" = none
  b_range : mg "range" = none
  b_set : mg "set" = none
  b_str : mg "str" = none
  b_tuple : mg "tuple" = none
  cl : ∃ c : Cs, Cl K mg c
local macro_rules | `(tactic| lcg_src) => `(tactic| first | with_reducible assumption | ((with_reducible refine' Same.get ?s ?e); (case s => with_reducible assumption); (case e => lcg_src)))
local macro_rules | `(tactic| lcg_sub) => `(tactic| first | with_reducible assumption | with_reducible exact Same.refl _ | ((with_reducible refine' Same.tr ?s ?e); (case s => with_reducible assumption); (case e => lcg_sub)))
local macro_rules | `(tactic| keq_rows) => `(tactic| first | with_reducible assumption | with_reducible exact Rep.int' | with_reducible exact Rep.str' | with_reducible exact Rep.bl' | with_reducible exact Rep.non' | ((with_reducible refine' Rep.same ?s ?e); (case s => with_reducible assumption); (case e => keq_rows)) | ((with_reducible refine' Rep.mkT ?c ?_); (case c => lcg_src); keq_hits) | ((with_reducible refine' Rep.mkL ?c ?_); (case c => lcg_src); keq_hits) | ((with_reducible refine' Rep.mkD ?c); (case c => lcg_src)))
local macro_rules | `(tactic| keq_hits) => `(tactic| first | with_reducible assumption | with_reducible exact Reps.nil' | ((with_reducible refine' Reps.cons' ?c ?_); (case c => keq_rows); keq_hits) | ((with_reducible refine' Reps.same ?s ?e); (case s => with_reducible assumption); (case e => keq_hits)))
local macro_rules | `(tactic| tlg_ne) => `(tactic| first | with_reducible assumption | ((with_reducible refine' SqL.of ?c); (case c => lcg_src)) | ((with_reducible refine' SqT.of ?c); (case c => lcg_src)) | ((with_reducible refine' SqL.same ?s ?e); (case s => with_reducible assumption); (case e => tlg_ne)))
local macro_rules | `(tactic| kpc_turns) => `(tactic| first | decide | omega | (constructor <;> first | decide | omega))
local macro_rules | `(tactic| kas_types) => `(tactic| simp only [cxK, cxK', compK, triedK, heldXK, start_cc, start_cn, start_nn])
local macro_rules | `(tactic| kpt_turns) => `(tactic| first
  | refine rd_go ?_
  | ((with_reducible refine' rd_mod ?c ?_); (case c => kpc_turns))
  | ((with_reducible refine' rd_fdiv ?c ?_); (case c => kpc_turns))
  | ((with_reducible refine' rd_mulI ?c ?_); (case c => first | exact .inl (by kpc_turns) | exact .inr (by kpc_turns)))
  | ((with_reducible refine' rd_mkT ?c ?_); (case c => (simp only [List.length_cons, List.length_nil]; decide)); intro _ _ _ _)
  | ((with_reducible refine' rd_mkL ?c ?_); (case c => (simp only [List.length_cons, List.length_nil]; decide)); intro _ _ _ _ _)
  | ((with_reducible refine' rd_ixT ?c ?d ?_); (case c => tlg_ne); (case d => exact rfl))
  | ((with_reducible refine' rd_ixL ?c ?d ?_); (case c => tlg_ne); (case d => exact rfl))
  | ((with_reducible refine' rd_isT ?c ?_); (case c => lcg_src))
  | ((with_reducible refine' rd_isL ?c ?_); (case c => lcg_src))
  | ((with_reducible refine' rd_isD ?c ?_); (case c => lcg_src))
  | ((with_reducible refine' rd_lenT ?c ?_); (case c => tlg_ne))
  | ((with_reducible refine' rd_lenL ?c ?_); (case c => tlg_ne))
  | ((with_reducible refine' rd_lenS ?c ?_); (case c => first | assumption | (show _ ≤ 16777216; decide) | omega))
  | ((with_reducible refine' rd_slT ?c ?d ?_); (case c => tlg_ne); (case d => simp [HT.sIx]; done); intro _ _ _ h; (simp [cutV, HT.sIx] at h))
  | ((with_reducible refine' rd_bmL ?c ?_); (case c => lcg_src))
  | ((with_reducible refine' rd_shr ?c ?_); (case c => omega))
  | ((with_reducible refine' rd_dnew ?_); intro _ _ _ _ _)
  | ((with_reducible refine' rd_pow ?c ?_); (case c => kpc_turns))
  | ((with_reducible refine' rd_exL ?c ?_); (case c => tlg_ne))
  | ((with_reducible refine' rd_exT ?c ?_); (case c => tlg_ne))
  | ((with_reducible refine' rd_exr1 ?c ?_); (case c => kpc_turns))
  | ((with_reducible refine' rd_exr2 ?c ?_); (case c => refine ⟨?_, ?_, ?_, ?_⟩ <;> first | decide | omega))
  | ((with_reducible refine' rd_gTup ?c ?d ?_); (case c => tlg_ne); (case d => exact rfl))
  | ((with_reducible refine' rd_listL ?c ?_); (case c => tlg_ne); intro _ _ _ _ _)
  | ((with_reducible refine' rd_listT ?c ?_); (case c => tlg_ne); intro _ _ _ _ _)
  | ((with_reducible refine' rd_addL ?c ?d ?e ?_); (case c => lcg_src); (case d => lcg_src); (case e => first | (simp only [List.length_cons, List.length_nil]; decide) | (simp only [List.length_cons, List.length_nil, List.length_append, sizeLine_eq]; omega)); intro _ _ _ _ h; (try simp only [List.cons_append, List.nil_append] at h))
  | ((with_reducible refine' rd_addT ?c ?d ?f ?e ?_); (case c => lcg_src); (case d => lcg_src); (case f => (intro h; cases h)); (case e => first | (simp only [List.length_cons, List.length_nil]; decide) | (simp only [List.length_cons, List.length_nil, List.length_append, sizeLine_eq]; omega)); intro _ _ _ h; (try simp only [List.cons_append, List.nil_append] at h)))
local macro_rules | `(tactic| lcg_off) => `(tactic| repeat kpt_turns)
local macro_rules | `(tactic| kaf_pre) => `(tactic| ((with_reducible refine' rd_menu ?c ?a ?b ?_); (case c => tlg_ne); (case a => first | exact Int.emod_nonneg _ (by decide) | omega); (case b => first | exact Int.emod_lt_of_pos _ (by decide) | (simp only [List.length_cons, List.length_nil]; omega))))
local macro_rules | `(tactic| kaf_suf) => `(tactic| ((with_reducible refine' rd_pick ?c ?a ?b ?_); (case c => tlg_ne); (case a => first | exact Int.emod_nonneg _ (by decide) | omega); (case b => first | exact Int.emod_lt_of_pos _ (by decide) | (simp only [List.length_cons, List.length_nil]; omega))))
section
variable {P : Program} {w : World} {K : PySem.W.Frag} {mg : Str → Option Value} {base : Heap}
theorem Cl.u_TierError {c : Cs} (Z : Cl K mg c) : ExU K mg "TierError" c.TierError := ⟨Z.m_TierError, Z.ur_TierError, Z.uf_TierError, Z.ug_TierError⟩
theorem Cl.xf_BadTiers {c : Cs} (Z : Cl K mg c) : ExF K c.BadTiers "line" := exF_of Z.fd_BadTiers Z.hm_BadTiers Z.hs_BadTiers Z.hf_BadTiers
theorem sc_BadTiers_init : FnScope ["self", "line"] ["self", "line"] (defScope s_BadTiers_init) := ⟨rfl, rfl, rfl, by decide +kernel, rfl, by decide +kernel, by decide +kernel⟩
theorem ok_BadTiers_init (T : Txt K mg) {c : Cs} (Z : Cl K mg c) {fd : FuncData} (F : Fun K "__init__" "BadTiers.__init__" s_BadTiers_init c.BadTiers_init fd) : FnOk P w K mg base CX0 (1) c.BadTiers_init fd ["self", "line"] (spInit c.BadTiers "line") := by
  refine F.okB sc_BadTiers_init (fun vs H Q E h => ?_) (fun cdv A outer s H vs Q E hr h => ?_)
  · obtain ⟨ea, v, rfl, _⟩ := h
    rfl
  · obtain ⟨ea, v, rfl, he, q⟩ := h
    refine ⟨_, (bss_cons (bs_expr (be_up Z.u_TierError (ba_c (bv 0) (ba_c (bv 1) ba_nil rfl) rfl)))
    (bss_one (bs_xfld (bv 0) (bv 1)))), ?_⟩
    kas_types
    lcg_off
    refine ⟨ea, c.BadTiers, none, v, c.BadTiers_init, rfl, he, Z.xi_BadTiers, ?_⟩
    lcg_off
    refine ⟨ea, c.BadTiers, rfl, he, Z.xf_BadTiers, fun dx h1 h2 => ?_⟩
    exact q dx h1 h2
end
end T53


set_option Elab.async false
set_option linter.all false
set_option maxRecDepth 100000
set_option maxHeartbeats 4000000
namespace T53
open PySem L2
local macro_rules | `(tactic| lcg_src) => `(tactic| first | with_reducible assumption | ((with_reducible refine' Same.get ?s ?e); (case s => with_reducible assumption); (case e => lcg_src)))
local macro_rules | `(tactic| lcg_sub) => `(tactic| first | with_reducible assumption | with_reducible exact Same.refl _ | ((with_reducible refine' Same.tr ?s ?e); (case s => with_reducible assumption); (case e => lcg_sub)))
local macro_rules | `(tactic| keq_rows) => `(tactic| first | with_reducible assumption | with_reducible exact Rep.int' | with_reducible exact Rep.str' | with_reducible exact Rep.bl' | with_reducible exact Rep.non' | ((with_reducible refine' Rep.same ?s ?e); (case s => with_reducible assumption); (case e => keq_rows)) | ((with_reducible refine' Rep.mkT ?c ?_); (case c => lcg_src); keq_hits) | ((with_reducible refine' Rep.mkL ?c ?_); (case c => lcg_src); keq_hits) | ((with_reducible refine' Rep.mkD ?c); (case c => lcg_src)))
local macro_rules | `(tactic| keq_hits) => `(tactic| first | with_reducible assumption | with_reducible exact Reps.nil' | ((with_reducible refine' Reps.cons' ?c ?_); (case c => keq_rows); keq_hits) | ((with_reducible refine' Reps.same ?s ?e); (case s => with_reducible assumption); (case e => keq_hits)))
local macro_rules | `(tactic| tlg_ne) => `(tactic| first | with_reducible assumption | ((with_reducible refine' SqL.of ?c); (case c => lcg_src)) | ((with_reducible refine' SqT.of ?c); (case c => lcg_src)) | ((with_reducible refine' SqL.same ?s ?e); (case s => with_reducible assumption); (case e => tlg_ne)))
local macro_rules | `(tactic| kpc_turns) => `(tactic| first | decide | omega | (constructor <;> first | decide | omega))
local macro_rules | `(tactic| kas_types) => `(tactic| simp only [cxK, cxK', compK, triedK, heldXK, start_cc, start_cn, start_nn])
local macro_rules | `(tactic| kpt_turns) => `(tactic| first
  | refine rd_go ?_
  | ((with_reducible refine' rd_mod ?c ?_); (case c => kpc_turns))
  | ((with_reducible refine' rd_fdiv ?c ?_); (case c => kpc_turns))
  | ((with_reducible refine' rd_mulI ?c ?_); (case c => first | exact .inl (by kpc_turns) | exact .inr (by kpc_turns)))
  | ((with_reducible refine' rd_mkT ?c ?_); (case c => (simp only [List.length_cons, List.length_nil]; decide)); intro _ _ _ _)
  | ((with_reducible refine' rd_mkL ?c ?_); (case c => (simp only [List.length_cons, List.length_nil]; decide)); intro _ _ _ _ _)
  | ((with_reducible refine' rd_ixT ?c ?d ?_); (case c => tlg_ne); (case d => exact rfl))
  | ((with_reducible refine' rd_ixL ?c ?d ?_); (case c => tlg_ne); (case d => exact rfl))
  | ((with_reducible refine' rd_isT ?c ?_); (case c => lcg_src))
  | ((with_reducible refine' rd_isL ?c ?_); (case c => lcg_src))
  | ((with_reducible refine' rd_isD ?c ?_); (case c => lcg_src))
  | ((with_reducible refine' rd_lenT ?c ?_); (case c => tlg_ne))
  | ((with_reducible refine' rd_lenL ?c ?_); (case c => tlg_ne))
  | ((with_reducible refine' rd_lenS ?c ?_); (case c => first | assumption | (show _ ≤ 16777216; decide) | omega))
  | ((with_reducible refine' rd_slT ?c ?d ?_); (case c => tlg_ne); (case d => simp [HT.sIx]; done); intro _ _ _ h; (simp [cutV, HT.sIx] at h))
  | ((with_reducible refine' rd_bmL ?c ?_); (case c => lcg_src))
  | ((with_reducible refine' rd_shr ?c ?_); (case c => omega))
  | ((with_reducible refine' rd_dnew ?_); intro _ _ _ _ _)
  | ((with_reducible refine' rd_pow ?c ?_); (case c => kpc_turns))
  | ((with_reducible refine' rd_exL ?c ?_); (case c => tlg_ne))
  | ((with_reducible refine' rd_exT ?c ?_); (case c => tlg_ne))
  | ((with_reducible refine' rd_exr1 ?c ?_); (case c => kpc_turns))
  | ((with_reducible refine' rd_exr2 ?c ?_); (case c => refine ⟨?_, ?_, ?_, ?_⟩ <;> first | decide | omega))
  | ((with_reducible refine' rd_gTup ?c ?d ?_); (case c => tlg_ne); (case d => exact rfl))
  | ((with_reducible refine' rd_listL ?c ?_); (case c => tlg_ne); intro _ _ _ _ _)
  | ((with_reducible refine' rd_listT ?c ?_); (case c => tlg_ne); intro _ _ _ _ _)
  | ((with_reducible refine' rd_addL ?c ?d ?e ?_); (case c => lcg_src); (case d => lcg_src); (case e => first | (simp only [List.length_cons, List.length_nil]; decide) | (simp only [List.length_cons, List.length_nil, List.length_append, sizeLine_eq]; omega)); intro _ _ _ _ h; (try simp only [List.cons_append, List.nil_append] at h))
  | ((with_reducible refine' rd_addT ?c ?d ?f ?e ?_); (case c => lcg_src); (case d => lcg_src); (case f => (intro h; cases h)); (case e => first | (simp only [List.length_cons, List.length_nil]; decide) | (simp only [List.length_cons, List.length_nil, List.length_append, sizeLine_eq]; omega)); intro _ _ _ h; (try simp only [List.cons_append, List.nil_append] at h)))
local macro_rules | `(tactic| lcg_off) => `(tactic| repeat kpt_turns)
local macro_rules | `(tactic| kaf_pre) => `(tactic| ((with_reducible refine' rd_menu ?c ?a ?b ?_); (case c => tlg_ne); (case a => first | exact Int.emod_nonneg _ (by decide) | omega); (case b => first | exact Int.emod_lt_of_pos _ (by decide) | (simp only [List.length_cons, List.length_nil]; omega))))
local macro_rules | `(tactic| kaf_suf) => `(tactic| ((with_reducible refine' rd_pick ?c ?a ?b ?_); (case c => tlg_ne); (case a => first | exact Int.emod_nonneg _ (by decide) | omega); (case b => first | exact Int.emod_lt_of_pos _ (by decide) | (simp only [List.length_cons, List.length_nil]; omega))))
section
variable {P : Program} {w : World} {K : PySem.W.Frag} {mg : Str → Option Value} {base : Heap}
def spCell (K : PySem.W.Frag) : Sp := fun vs H Q _ => ∃ (a : Addr) (ns : List Int) (k : Nat), vs = [.ref a, .int k] ∧ SqL K H a (ns.map V.int) ∧ Q (.int (ns.getD k 0)) H
theorem sc__law_cell_at : FnScope ["_law_script", "_law_k"] ["_law_script", "_law_k"] (defScope s__law_cell_at) := ⟨rfl, rfl, rfl, by decide +kernel, rfl, by decide +kernel, by decide +kernel⟩
theorem ok__law_cell_at (T : Txt K mg) {f : Addr} {fd : FuncData} (N : Fn K mg "_law_cell_at" s__law_cell_at ["_law_script", "_law_k"] f fd) : FnOk P w K mg base CX0 (1) f fd ["_law_script", "_law_k"] (spCell K) := by
  refine N.fu.okB sc__law_cell_at (fun vs H Q E h => ?_) (fun cdv A outer s H vs Q E hr h => ?_)
  · obtain ⟨a, ns, k, rfl, _⟩ := h
    rfl
  · obtain ⟨a, ns, k, rfl, hS, q⟩ := h
    refine ⟨_, (bss_cons (bs_if (bt_cmp o_lt (bv 1) (b_b c_len T.b_len (by kernel_rfl) (ba_c (bv 0) ba_nil rfl)) (nomark _))
      (bss_one (bs_ret (b_ix ix_seq (bv 0) (bv 1) (fun _ _ => rfl))))
      bss_nil)
    (bss_one (bs_ret b_int))), ?_⟩
    kas_types
    lcg_off
    refine ite_dec (fun h1 => ?_) (fun h1 => ?_)
    · rw [List.length_map] at h1
      have hk : k < ns.length := by omega
      lcg_off
      refine rd_ixL hS (atI_nat (v := .int (ns.getD k 0)) ?_) q
      rw [List.getElem?_map, List.getElem?_eq_getElem hk, List.getD_eq_getElem?_getD, List.getElem?_eq_getElem hk]
      rfl
    · rw [List.length_map] at h1
      have e : ns.getD k 0 = 0 := by
        rw [List.getD_eq_getElem?_getD, List.getElem?_eq_none (by omega)]
        rfl
      rw [e] at q
      lcg_off
      exact q
theorem cell_use {K : PySem.W.Frag} {H : Hp} {Q : VK} {E : XK} {a : Addr} {ns : List Int} {i : Int} {k : Nat} (hS : SqL K H a (ns.map V.int)) (hi : i = (k : Int)) (q : Q (.int (ns.getD k 0)) H) : spCell K [.ref a, .int i] H Q E := ⟨a, ns, k, by rw [hi], hS, q⟩

def mixed (c k : Int) : Int := ((c + 7919 * k) * 48271 % 2147483647) * ((c + 7919 * k) * 48271 % 2147483647 % 65537 + k + 1) % 2147483647
theorem mixed_bound (c k : Int) : 0 ≤ mixed c k ∧ mixed c k < 2147483647 := by
  unfold mixed
  exact ⟨Int.emod_nonneg _ (by decide), Int.emod_lt_of_pos _ (by decide)⟩
def spMixed : Sp := fun vs H Q _ => ∃ (c k : Int), vs = [.int c, .int k] ∧ Q (.int (mixed c k)) H
theorem sc__law_mixed : FnScope ["_law_cell", "_law_k", "_law_mixed_here"] ["_law_cell", "_law_k"] (defScope s__law_mixed) := ⟨rfl, rfl, rfl, by decide +kernel, rfl, by decide +kernel, by decide +kernel⟩
theorem ok__law_mixed (T : Txt K mg) {f : Addr} {fd : FuncData} (N : Fn K mg "_law_mixed" s__law_mixed ["_law_cell", "_law_k"] f fd) : FnOk P w K mg base CX0 (1) f fd ["_law_cell", "_law_k"] (spMixed) := by
  refine N.fu.okB sc__law_mixed (fun vs H Q E h => ?_) (fun cdv A outer s H vs Q E hr h => ?_)
  · obtain ⟨c, k, rfl, _⟩ := h
    rfl
  · obtain ⟨c, k, rfl, q⟩ := h
    refine ⟨_, (bss_cons (bs_set (i := 2) sc__law_mixed.nd rfl (by first | exact Or.inl rfl | exact Or.inr rfl) (b_op op_mod (b_op o_mul (b_op o_add (bv 0) (b_op o_mul b_int (bv 1))) b_int) b_int))
    (bss_one (bs_ret (b_op op_mod (b_op o_mul (bv 2) (b_op o_add (b_op o_add (b_op op_mod (bv 2) b_int) (bv 1)) b_int)) b_int)))), ?_⟩
    kas_types
    lcg_off
    exact q
theorem mixed_use {H : Hp} {Q : VK} {E : XK} {c k : Int} (q : Q (.int (mixed c k)) H) : spMixed [.int c, .int k] H Q E := ⟨c, k, rfl, q⟩

/-! ### figures -/
def spFig : Sp := fun vs H Q _ => ∃ z : Str, vs = [.str z] ∧ z.length ≤ 5000 ∧ ∀ H', Same H H' → Q (.bl (figB z)) H'
theorem sc_are_figures : FnScope ["text"] ["text"] (defScope s_are_figures) := ⟨rfl, rfl, rfl, by decide +kernel, rfl, by decide +kernel, by decide +kernel⟩
theorem ok_are_figures (T : Txt K mg) {f : Addr} {fd : FuncData} (N : Fn K mg "are_figures" s_are_figures ["text"] f fd) : FnOk P w K mg base CX0 (1) f fd ["text"] (spFig) := by
  refine N.fu.okB sc_are_figures (fun vs H Q E h => ?_) (fun cdv A outer s H vs Q E hr h => ?_)
  · obtain ⟨z, rfl, _⟩ := h
    rfl
  · obtain ⟨z, rfl, hz, q⟩ := h
    have hzs : z.length ≤ sizeLine := by rw [sizeLine_eq]; omega
    refine ⟨_, (bss_one (bs_ret (b_and (b_cmp (o_neD (room100 hr)) (bv 0) b_str (nomark _)) (b_one (b_b (c_all rfl) T.b_all (by kernel_rfl) (ba_c (b_lc (x := "sign") (ix := []) (fv := []) (osc := defScope s_are_figures) rfl ⟨rfl, by decide +kernel, by decide +kernel, by rfl, by decide +kernel, by decide +kernel, by decide +kernel⟩ (by rfl) (bi_str (bv 0)) (fun _ _ _ _ => bf_nil) (fun _ _ _ _ => (b_cmp op_in_str (bv 0) (b_gl T.g_FIGURES) rfl))) ba_nil rfl)))))), ?_⟩
    kas_types
    rw [show Str.ofString "0123456789" = FIG from rfl]
    lcg_off
    refine ite_ndec (fun h1 => ?_) (fun h1 => ?_)
    · lcg_off
      refine lcS (fun c => .bl (isFig c)) hzs (fun c hc R h => ?_) (fun p H1 hp s1 hl => ?_)
      · lcg_off
        refine ⟨_, _, rfl, rfl, ?_⟩
        rw [fig_in]
        exact h
      lcg_off
      refine rd_all (z.cps.toList.map isFig) (SqL.of (by rw [hl, List.map_map]; rfl)) ?_
      have e : (z.cps.toList.map isFig).all id = figB z := by
        unfold figB
        rw [List.all_map, decide_eq_true h1, Bool.true_and]
        rfl
      rw [e]
      exact q _ s1
    · have e : figB z = false := by
        unfold figB
        rw [decide_eq_false (fun h => h h1), Bool.false_and]
      rw [e] at q
      exact q _ (Same.refl _)
theorem fig_use {H : Hp} {Q : VK} {E : XK} {z : Str} (h : z.length ≤ 5000) (q : ∀ H', Same H H' → Q (.bl (figB z)) H') : spFig [.str z] H Q E := ⟨z, rfl, h, q⟩
def optI : Option Int → V
  | none => .non
  | some n => .int n
/-! ### figures with noughts ahead -/
def rpM (least most : Int) (z : Str) : Option Int := if figB z = true ∧ least ≤ (numM z : Int) ∧ (numM z : Int) ≤ most then some (numM z : Int) else none
def spRp : Sp := fun vs H Q _ => ∃ (z : Str) (least most : Int), vs = [.str z, .int least, .int most] ∧ z.length ≤ 600 ∧ ∀ H', Same H H' → Q (optI (rpM least most z)) H'
theorem sc_read_padded : FnScope ["text", "least", "most", "number"] ["text", "least", "most"] (defScope s_read_padded) := ⟨rfl, rfl, rfl, by decide +kernel, rfl, by decide +kernel, by decide +kernel⟩
theorem ok_read_padded (T : Txt K mg) {f : Addr} {fd : FuncData} (N : Fn K mg "read_padded" s_read_padded ["text", "least", "most"] f fd) : FnOk P w K mg base CX0 (2) f fd ["text", "least", "most"] (spRp) := by
  obtain ⟨_, _, N_are_figures⟩ := T.f_are_figures
  have G_are_figures := ok_are_figures (P := P) (w := w) (base := base) T N_are_figures 
  refine N.fu.okB sc_read_padded (fun vs H Q E h => ?_) (fun cdv A outer s H vs Q E hr h => ?_)
  · obtain ⟨z, least, most, rfl, _⟩ := h
    rfl
  · obtain ⟨z, least, most, rfl, hz, q⟩ := h
    have hzs : z.length ≤ sizeLine := by rw [sizeLine_eq]; omega
    refine ⟨_, (bss_cons (bs_if (bt_not (bt_val (b_f N_are_figures G_are_figures (hr.mono (by first | decide | omega)) (ba_c (bv 0) ba_nil rfl)) (fun _ => rfl)))
      (bss_one (bs_ret b_non))
      bss_nil)
    (bss_cons (bs_set (i := 3) sc_read_padded.nd rfl (by first | exact Or.inl rfl | exact Or.inr rfl) (b_t c_int T.b_int (by kernel_rfl) (ba_c (bv 0) ba_nil rfl)))
    (bss_one (bs_ret (b_if (bt_chain o_le o_le (bv 1) (bv 3) (bv 2)) (bv 3) b_non))))), ?_⟩
    kas_types
    lcg_off
    refine fig_use (by omega) (fun H1 s1 => ?_)
    lcg_off
    cases hf : figB z with
    | false =>
      rw [show rpM least most z = none from if_neg fun h => by rw [hf] at h; exact absurd h.1 (by decide)] at q
      lcg_off
      exact q _ s1
    | true =>
      have hit := fig_reads hf (by omega)
      lcg_off
      refine rd_intT hit (by omega) ?_
      lcg_off
      refine ite_dec (fun a1 => ?_) (fun a1 => ?_)
      · lcg_off
        refine ite_dec (fun a2 => ?_) (fun a2 => ?_)
        · rw [show rpM least most z = some (numM z : Int) from if_pos ⟨hf, a1, a2⟩] at q
          lcg_off
          exact q _ s1
        · rw [show rpM least most z = none from if_neg fun h => a2 h.2.2] at q
          lcg_off
          exact q _ s1
      · rw [show rpM least most z = none from if_neg fun h => a1 h.2.1] at q
        lcg_off
        exact q _ s1
theorem rp_use {H : Hp} {Q : VK} {E : XK} {z : Str} {least most : Int} (h1 : z.length ≤ 600) (q : ∀ H', Same H H' → Q (optI (rpM least most z)) H') : spRp [.str z, .int least, .int most] H Q E := ⟨z, least, most, rfl, h1, q⟩

theorem starts0 (z : Str) : Txt.startswith z (Str.ofString "0") = true ↔ atI z.cps.toList 0 = some 48 := starts_one z "0" 48 (by decide +kernel)
def spRf : Sp := fun vs H Q _ => ∃ (z : Str) (least most : Int), vs = [.str z, .int least, .int most] ∧ z.length ≤ 5000 ∧ 0 ≤ most ∧ most.natAbs.log2 < 1920 ∧ (Str.ofString (toString most)).length ≤ 10 ∧ ∀ H', Same H H' → Q (optI (rfM least most (Str.ofString (toString most)).length z)) H'
theorem sc_read_figures : FnScope ["text", "least", "most"] ["text", "least", "most"] (defScope s_read_figures) := ⟨rfl, rfl, rfl, by decide +kernel, rfl, by decide +kernel, by decide +kernel⟩
theorem ok_read_figures (T : Txt K mg) {f : Addr} {fd : FuncData} (N : Fn K mg "read_figures" s_read_figures ["text", "least", "most"] f fd) : FnOk P w K mg base CX0 (3) f fd ["text", "least", "most"] (spRf) := by
  obtain ⟨_, _, N_read_padded⟩ := T.f_read_padded
  have G_read_padded := ok_read_padded (P := P) (w := w) (base := base) T N_read_padded 
  refine N.fu.okB sc_read_figures (fun vs H Q E h => ?_) (fun cdv A outer s H vs Q E hr h => ?_)
  · obtain ⟨z, least, most, rfl, _⟩ := h
    rfl
  · obtain ⟨z, least, most, rfl, hz, hm, hm2, hm3, q⟩ := h
    have hzs : z.length ≤ sizeLine := by rw [sizeLine_eq]; omega
    generalize hn : (Str.ofString (toString most)).length = n at *
    refine ⟨_, (bss_cons (bs_if (bt_cmp op_gt (b_b c_len T.b_len (by kernel_rfl) (ba_c (bv 0) ba_nil rfl)) (b_b c_len T.b_len (by kernel_rfl) (ba_c (b_t c_str T.b_str (by kernel_rfl) (ba_c (bv 2) ba_nil rfl)) ba_nil rfl)) (nomark _))
      (bss_one (bs_ret b_non))
      bss_nil)
    (bss_cons (bs_if (bt_w (bw_and (bt_val (bm_startswith (bv 0) (ba_c b_str ba_nil rfl)) (fun _ => rfl)) (bw_and1 (bt_cmp (o_neD (room100 hr)) (bv 0) b_str (nomark _)))))
      (bss_one (bs_ret b_non))
      bss_nil)
    (bss_one (bs_ret (b_f N_read_padded G_read_padded (hr.mono (by first | decide | omega)) (ba_c (bv 0) (ba_c (bv 1) (ba_c (bv 2) ba_nil rfl) rfl) rfl)))))), ?_⟩
    kas_types
    lcg_off
    refine rd_str hm2 ?_
    lcg_off
    refine rd_lenS (by rw [hn, sizeLine_eq]; omega) ?_
    rw [hn]
    lcg_off
    refine ite_dec (fun h1 => ?_) (fun h1 => ?_)
    · rw [show rfM least most n z = none from if_neg fun h => by omega] at q
      lcg_off
      exact q _ (Same.refl _)
    have hzn : z.length ≤ n := by omega
    have hst : Txt.startswith z (Str.ofString "0") = true ↔ atI z.cps.toList 0 = some 48 := starts0 z
    lcg_off
    refine ⟨rfl, ?_⟩
    lcg_off
    refine rd_starts ?_
    lcg_off
    have fin : ¬ (atI z.cps.toList 0 = some 48 ∧ z ≠ Str.ofString "0") → rfM least most n z = rpM least most z := fun hno => by
      unfold rfM rpM
      by_cases hc : figB z = true ∧ least ≤ (numM z : Int) ∧ (numM z : Int) ≤ most
      · rw [if_pos hc, if_pos ⟨hzn, hc.1, hno, hc.2⟩]
      · rw [if_neg hc, if_neg fun h => hc ⟨h.2.1, h.2.2.2⟩]
    cases hs : Txt.startswith z (Str.ofString "0") with
    | true =>
      lcg_off
      refine ite_ndec (fun h3 => ?_) (fun h3 => ?_)
      · rw [show rfM least most n z = none from if_neg fun h => h.2.2.1 ⟨hst.mp hs, h3⟩] at q
        lcg_off
        exact q _ (Same.refl _)
      · rw [fin fun h => h.2 h3] at q
        lcg_off
        exact rp_use (by omega) q
    | false =>
      rw [fin fun h => by rw [hst.mpr h.1] at hs; cases hs] at q
      lcg_off
      exact rp_use (by omega) q
theorem rf_use {H : Hp} {Q : VK} {E : XK} {z : Str} {least most : Int} (h1 : z.length ≤ 5000) (h2 : 0 ≤ most) (h3 : most.natAbs.log2 < 1920) (h4 : (Str.ofString (toString most)).length ≤ 10) (q : ∀ H', Same H H' → Q (optI (rfM least most (Str.ofString (toString most)).length z)) H') : spRf [.str z, .int least, .int most] H Q E := ⟨z, least, most, rfl, h1, h2, h3, h4, q⟩

theorem la (x y : Str) : (x ++ y).length = x.length + y.length := by rw [len_list, app_list, List.length_append, ← len_list, ← len_list]
theorem ap (x y z : Str) : x ++ y ++ z = x ++ (y ++ z) := str_ext (by rw [app_list, app_list, app_list, app_list, List.append_assoc])
theorem app_nil' (x : Str) : x ++ Str.ofString "" = x := str_ext (by rw [app_list]; show _ ++ [] = _; rw [List.append_nil])
theorem len_nl : (Str.ofString "\n").length = 1 := by decide +kernel
theorem len_bl : (Str.ofString " ").length = 1 := by decide +kernel
theorem le_empty : (Str.ofString "").length = 0 := by decide +kernel
theorem log_small (n : Nat) (h : n < 2 ^ 64) : ((n : Nat) : Int).natAbs.log2 < 1920 := by
  rw [Int.natAbs_natCast]
  by_cases h0 : n = 0
  · rw [h0]; decide
  · have := (Nat.log2_lt h0).mpr (Nat.lt_of_lt_of_le h (Nat.pow_le_pow_right (by decide) (show 64 ≤ 1920 by decide)))
    exact this

/-! ### rows -/
def rowsS : List Str → Str
  | [] => Str.ofString ""
  | z :: zs => z ++ Str.ofString "\n" ++ rowsS zs
def sumL (zs : List Str) : Nat := (zs.map fun z => z.length).sum
theorem join_rows : ∀ zs : List Str, Txt.join (Str.ofString "") (zs.map fun z => z ++ Str.ofString "\n") = rowsS zs := by
  intro ds
  refine (StrLaws.glued_eq_join _ _).trans ?_
  induction ds with
  | nil => rfl
  | cons d ds ih =>
    cases ds with
    | nil =>
      show d ++ Str.ofString "\n" = d ++ Str.ofString "\n" ++ Str.ofString ""
      exact (app_nil' _).symm
    | cons e es =>
      rw [List.map_cons] at ih
      rw [List.map_cons, List.map_cons]
      show (d ++ Str.ofString "\n" ++ Str.ofString "" ++ Str.join (Str.ofString "") ((e ++ Str.ofString "\n") :: es.map fun z => z ++ Str.ofString "\n") : Str) = d ++ Str.ofString "\n" ++ rowsS (e :: es)
      rw [ih, app_nil']
theorem rowsS_len : ∀ zs : List Str, (rowsS zs).length = sumL zs + zs.length
  | [] => by decide +kernel
  | z :: zs => by
    have := rowsS_len zs
    simp only [rowsS, la, len_nl, sumL, List.map_cons, List.sum_cons, List.length_cons] at this ⊢
    omega
theorem sum_rows : ∀ zs : List Str, (List.map (fun x => x.length) (zs.map fun z => z ++ Str.ofString "\n")).sum = sumL zs + zs.length
  | [] => rfl
  | z :: zs => by
    have := sum_rows zs
    simp only [List.map_cons, List.sum_cons, la, len_nl, sumL, List.length_cons] at this ⊢
    omega
theorem le_sumL : ∀ {zs : List Str} {z : Str}, z ∈ zs → z.length ≤ sumL zs
  | y :: zs, z, h => by
    simp only [sumL, List.map_cons, List.sum_cons]
    rcases List.mem_cons.mp h with e | e
    · rw [e]; omega
    · have := le_sumL e
      unfold sumL at this
      omega
def spRows : Sp := fun vs H Q _ => ∃ p zs, vs = [.ref p] ∧ H p = some (.lst (zs.map V.str)) ∧ zs.length ≤ 1000 ∧ sumL zs ≤ 1000000 ∧ ∀ H', Same H H' → Q (.str (rowsS zs)) H'
theorem sc_text_of_rows : FnScope ["rows"] ["rows"] (defScope s_text_of_rows) := ⟨rfl, rfl, rfl, by decide +kernel, rfl, by decide +kernel, by decide +kernel⟩
theorem ok_text_of_rows (T : Txt K mg) {f : Addr} {fd : FuncData} (N : Fn K mg "text_of_rows" s_text_of_rows ["rows"] f fd) : FnOk P w K mg base CX0 (1) f fd ["rows"] (spRows) := by
  refine N.fu.okB sc_text_of_rows (fun vs H Q E h => ?_) (fun cdv A outer s H vs Q E hr h => ?_)
  · obtain ⟨p, zs, rfl, _⟩ := h
    rfl
  · obtain ⟨p, zs, rfl, hp, hl, hs, q⟩ := h
    refine ⟨_, (bss_one (bs_ret (bm_join b_str (ba_c (b_lc (x := "row") (ix := []) (fv := []) (osc := defScope s_text_of_rows) rfl ⟨rfl, by decide +kernel, by decide +kernel, by rfl, by decide +kernel, by decide +kernel, by decide +kernel⟩ (by rfl) (bi_list (bv 0)) (fun _ _ _ _ => bf_nil) (fun _ _ _ _ => (b_op (o_addK (K := K) rfl) (bv 0) b_str))) ba_nil rfl)))), ?_⟩
    kas_types
    lcg_off
    refine ⟨rfl, ?_⟩
    lcg_off
    refine lcWl (xs := zs.map V.str) (fun i ys H' => H' = H ∧ i ≤ zs.length ∧ ys = ((zs.take i).map fun z => z ++ Str.ofString "\n").map V.str) (by rw [sizeLine_eq, List.length_map]; omega) ⟨rfl, Nat.zero_le _, rfl⟩ (fun i ys H' h => ⟨h.1 ▸ SqL.of hp, ?_⟩) (fun i v ys H' hv h => ?_) (fun ys p' H' H3 h hp' sp hl3 => ?_)
    · rw [h.2.2, List.length_map, List.length_map, List.length_take]
      have := h.2.1
      omega
    · obtain ⟨rfl, hi, rfl⟩ := h
      rw [List.getElem?_map] at hv
      cases hz : zs[i]? with
      | none => rw [hz] at hv; cases hv
      | some z =>
        rw [hz] at hv
        obtain rfl := Option.some.inj hv
        have hlt : i < zs.length := (List.getElem?_eq_some_iff.mp hz).1
        have hzl := le_sumL (List.mem_of_getElem? hz)
        lcg_off
        refine rd_addS (by rw [len_nl, sizeLine_eq]; omega) ⟨rfl, by omega, ?_⟩
        rw [List.take_add_one, hz, List.map_append, List.map_append]
        rfl
    · obtain ⟨rfl, _, rfl⟩ := h
      rw [List.length_map, List.take_length] at hl3
      lcg_off
      refine ⟨_, p', zs.map fun z => z ++ Str.ofString "\n", rfl, rfl, SqL.of hl3, ?_, ?_⟩
      · rw [le_empty, Nat.mul_zero, Nat.add_zero, sum_rows]
        omega
      rw [join_rows]
      exact q _ sp
theorem rows_use {H : Hp} {Q : VK} {E : XK} {p : Addr} (zs : List Str) (h1 : H p = some (.lst (zs.map V.str))) (h2 : zs.length ≤ 1000) (h3 : sumL zs ≤ 1000000) (q : ∀ H', Same H H' → Q (.str (rowsS zs)) H') : spRows [.ref p] H Q E := ⟨p, zs, rfl, h1, h2, h3, q⟩

/-! ### rows read, right or wrong -/
def rowAtM (zs : List Str) (j : Nat) : Str := zs.getD j (Str.ofString "")
def spRowAt : Sp := fun vs H Q _ => ∃ (p : Addr) (zs : List Str) (j : Nat), vs = [.ref p, .int ((j + 1 : Nat) : Int)] ∧ H p = some (.lst (zs.map V.str)) ∧ Q (.str (rowAtM zs j)) H
theorem sc_row_at : FnScope ["rows", "line"] ["rows", "line"] (defScope s_row_at) := ⟨rfl, rfl, rfl, by decide +kernel, rfl, by decide +kernel, by decide +kernel⟩
theorem ok_row_at (T : Txt K mg) {f : Addr} {fd : FuncData} (N : Fn K mg "row_at" s_row_at ["rows", "line"] f fd) : FnOk P w K mg base CX0 (1) f fd ["rows", "line"] (spRowAt) := by
  refine N.fu.okB sc_row_at (fun vs H Q E h => ?_) (fun cdv A outer s H vs Q E hr h => ?_)
  · obtain ⟨p, zs, j, rfl, _⟩ := h
    rfl
  · obtain ⟨p, zs, j, rfl, hp, q⟩ := h
    refine ⟨_, (bss_one (bs_ret (b_if (bt_cmp o_le (bv 1) (b_b c_len T.b_len (by kernel_rfl) (ba_c (bv 0) ba_nil rfl)) (nomark _)) (b_ix ix_seq (bv 0) (b_op op_sub (bv 1) b_int) (fun _ _ => rfl)) b_str))), ?_⟩
    kas_types
    lcg_off
    refine ite_dec (fun h1 => ?_) (fun h1 => ?_)
    · rw [List.length_map] at h1
      have hlt : j < zs.length := by omega
      lcg_off
      refine rd_ixL (SqL.of hp) (v := .str (rowAtM zs j)) ?_ ?_
      · rw [show ((j + 1 : Nat) : Int) - 1 = (j : Int) by omega]
        refine atI_nat ?_
        unfold rowAtM
        rw [List.getElem?_map, List.getD_eq_getElem?_getD, List.getElem?_eq_getElem hlt]
        rfl
      exact q
    · rw [List.length_map] at h1
      have e : rowAtM zs j = Str.ofString "" := by
        unfold rowAtM
        rw [List.getD_eq_getElem?_getD, List.getElem?_eq_none (by omega)]
        rfl
      rw [e] at q
      lcg_off
      exact q
theorem rowAt_use {H : Hp} {Q : VK} {E : XK} {p : Addr} {i : Int} (zs : List Str) (j : Nat) (hi : i = ((j + 1 : Nat) : Int)) (h1 : H p = some (.lst (zs.map V.str))) (q : Q (.str (rowAtM zs j)) H) : spRowAt [.ref p, .int i] H Q E := ⟨p, zs, j, by rw [hi], h1, q⟩
def rnM (row ah : Str) (least : Int) (most : Nat) : Option Int := if Txt.startswith row ah = true then rfM least (most : Nat) (Str.ofString (toString (most : Int))).length (Txt.slice row (some (ah.length : Nat)) none) else none
def spRnum (c : Cs) : Sp := fun vs H Q E => ∃ (p : Addr) (zs : List Str) (j : Nat) (ah : Str) (least : Int) (most : Nat), vs = [.ref p, .int ((j + 1 : Nat) : Int), .str ah, .int least, .int (most : Nat)] ∧ H p = some (.lst (zs.map V.str)) ∧ (rowAtM zs j).length ≤ 5000 ∧ ah.length ≤ 100 ∧ most ≤ 999999999 ∧ (Str.ofString (toString (most : Int))).length ≤ 10 ∧
  (∀ n H', rnM (rowAtM zs j) ah least most = some n → Same H H' → Q (.int n) H') ∧
  (rnM (rowAtM zs j) ah least most = none → ∀ dx H', Same H H' → H dx = none → H' dx = some (.xd [("line", .int ((j + 1 : Nat) : Int))]) → E (.ref c.BadTiers) (some dx) H')
theorem slice_le {z ah : Str} (h : Txt.startswith z ah = true) : (Txt.slice z (some (ah.length : Nat)) none).length ≤ z.length := by
  have hl : ah.length ≤ z.length := by
    rw [len_list, len_list]
    exact ((starts_iff z ah).mp h).length_le
  have e := congrArg List.length (slice_from (z := z) (j := (ah.length : Nat)) (by omega) (by omega))
  rw [List.length_drop, ← len_list, ← len_list] at e
  omega
theorem sc_read_number : FnScope ["rows", "line", "ahead", "least", "most", "row", "number"] ["rows", "line", "ahead", "least", "most"] (defScope s_read_number) := ⟨rfl, rfl, rfl, by decide +kernel, rfl, by decide +kernel, by decide +kernel⟩
theorem ok_read_number (T : Txt K mg) {c : Cs} (Z : Cl K mg c) {f : Addr} {fd : FuncData} (N : Fn K mg "read_number" s_read_number ["rows", "line", "ahead", "least", "most"] f fd) : FnOk P w K mg base (CXE P w) (4) f fd ["rows", "line", "ahead", "least", "most"] (spRnum c) := by
  obtain ⟨_, _, N_row_at⟩ := T.f_row_at
  have G_row_at := ok_row_at (P := P) (w := w) (base := base) T N_row_at 
  obtain ⟨_, _, N_read_figures⟩ := T.f_read_figures
  have G_read_figures := ok_read_figures (P := P) (w := w) (base := base) T N_read_figures 
  obtain ⟨_, FI_BadTiers, bI_BadTiers⟩ := Z.i_BadTiers
  have GI_BadTiers := ok_BadTiers_init (P := P) (w := w) (base := base) T Z FI_BadTiers
  refine N.fu.okE sc_read_number (fun vs H Q E h => ?_) (fun cdv A outer s H vs Q E hr h => ?_)
  · obtain ⟨p, zs, j, ah, least, most, rfl, _⟩ := h
    rfl
  · obtain ⟨p, zs, j, ah, least, most, rfl, hp, hz, ha, hm, hm2, q, qe⟩ := h
    have hzs : (rowAtM zs j).length ≤ sizeLine := by rw [sizeLine_eq]; omega
    have haz : ah.length ≤ sizeLine := by rw [sizeLine_eq]; omega
    refine ⟨_, (bss_cons (bs_set (i := 5) sc_read_number.nd rfl (by first | exact Or.inl rfl | exact Or.inr rfl) (b_f N_row_at G_row_at (hr.mono (by first | decide | omega)) (ba_c (bv 0) (ba_c (bv 1) ba_nil rfl) rfl)))
    (bss_cons (bs_set (i := 6) sc_read_number.nd rfl (by first | exact Or.inl rfl | exact Or.inr rfl) b_non)
    (bss_cons (bs_if (bt_val (bm_startswith (bv 5) (ba_c (bv 2) ba_nil rfl)) (fun _ => rfl))
      (bss_one (bs_set (i := 6) sc_read_number.nd rfl (by first | exact Or.inl rfl | exact Or.inr rfl) (b_f N_read_figures G_read_figures (hr.mono (by first | decide | omega)) (ba_c (b_slice s_any (bv 5) (bo_some (b_b c_len T.b_len (by kernel_rfl) (ba_c (bv 2) ba_nil rfl))) bo_none) (ba_c (bv 3) (ba_c (bv 4) ba_nil rfl) rfl) rfl))))
      bss_nil)
    (bss_cons (bs_if (bt_cmp o_is (bv 6) b_non (nomark _))
      (bss_one (bs_raiseI throws_of rfl ⟨Z.m_BadTiers, Z.xi_BadTiers⟩ GI_BadTiers (hr.mono (by first | decide | omega)) bI_BadTiers (ba_c (bv 1) ba_nil rfl)))
      bss_nil)
    (bss_one (bs_ret (bv 6))))))), ?_⟩
    kas_types
    lcg_off
    refine rowAt_use zs j rfl hp ?_
    lcg_off
    refine ⟨rfl, ?_⟩
    lcg_off
    refine rd_starts ?_
    cases hs : Txt.startswith (rowAtM zs j) ah with
    | false =>
      lcg_off
      exact rd_raiseI (qe (by unfold rnM; rw [hs]; rfl))
    | true =>
      lcg_off
      refine rd_slS hzs ?_
      have hsl := slice_le hs
      lcg_off
      refine rf_use (by omega) (by omega) (log_small _ (by omega)) hm2 (fun H1 s1 => ?_)
      have e : rnM (rowAtM zs j) ah least most = rfM least (most : Nat) (Str.ofString (toString (most : Int))).length (Txt.slice (rowAtM zs j) (some (ah.length : Nat)) none) := by unfold rnM; rw [hs, if_pos rfl]
      rw [← e]
      cases hn : rnM (rowAtM zs j) ah least most with
      | none =>
        simp only [optI]
        lcg_off
        exact rd_raiseI (fun dx H' s2 n2 h2 => qe hn dx H' (s1.trans s2) (s1.free n2) h2)
      | some n =>
        simp only [optI]
        lcg_off
        exact q n H1 hn s1
theorem rnum_use {c : Cs} {H : Hp} {Q : VK} {E : XK} {p : Addr} {i m least : Int} {ah : Str} (zs : List Str) (j most : Nat) (hi : i = ((j + 1 : Nat) : Int)) (hm : m = (most : Nat)) (h1 : H p = some (.lst (zs.map V.str))) (h2 : (rowAtM zs j).length ≤ 5000) (h3 : ah.length ≤ 100) (h4 : most ≤ 999999999) (h5 : (Str.ofString (toString (most : Int))).length ≤ 10)
    (q : ∀ n H', rnM (rowAtM zs j) ah least most = some n → Same H H' → Q (.int n) H') (qe : rnM (rowAtM zs j) ah least most = none → ∀ dx H', Same H H' → H dx = none → H' dx = some (.xd [("line", .int ((j + 1 : Nat) : Int))]) → E (.ref c.BadTiers) (some dx) H') :
    spRnum c [.ref p, .int i, .str ah, .int least, .int m] H Q E := ⟨p, zs, j, ah, least, most, by rw [hi, hm], h1, h2, h3, h4, h5, q, qe⟩
theorem numT_l7 {n : Nat} (h : n ≤ 9999999) : (numT n).length ≤ 7 := numT_le (k := 7) (by omega) (by decide)
theorem numT_l9 {n : Nat} (h : n ≤ 999999999) : (numT n).length ≤ 9 := numT_le (k := 9) (by omega) (by decide)

/-! ### a tier's row, right or wrong -/
def optsV (xs : List (Option Int)) : List V := xs.map optI
def gotN (xs : List (Option Int)) : List Int := xs.map fun x => x.getD 0
theorem optsV_flat (xs : List (Option Int)) : (optsV xs).all flatV = true := by
  unfold optsV
  rw [List.all_map]
  exact List.all_eq_true.mpr fun x _ => by cases x <;> rfl
theorem inV_opts (xs : List (Option Int)) : inV .non (optsV xs) = decide (none ∈ xs) := by
  unfold inV optsV
  induction xs with
  | nil => simp
  | cons x xs ih =>
    rw [List.map_cons, List.any_cons, ih]
    cases x <;> simp [optI, eqV]
theorem optsV_got {xs : List (Option Int)} (h : none ∉ xs) : optsV xs = (gotN xs).map V.int := by
  unfold optsV gotN
  rw [List.map_map]
  refine List.map_congr_left fun x hx => ?_
  cases x with
  | none => exact absurd hx h
  | some n => rfl
def tnum (f : Nat) : Str → Option Int := rfM 1 ((f - 1 : Nat) : Int) (Str.ofString (toString ((f - 1 : Nat) : Int))).length
def wordsT (row : Str) : List Str := Txt.split row (Str.ofString " ")
def rtM (row : Str) (f : Nat) : Option (List Int) := if (wordsT row).head? = some (Str.ofString "tier") ∧ none ∉ ((wordsT row).drop 1).map (tnum f) then some (gotN (((wordsT row).drop 1).map (tnum f))) else none
def spRtier : Sp := fun vs H Q _ => ∃ (row : Str) (f : Nat), vs = [.str row, .int (f : Nat)] ∧ row.length ≤ 5000 ∧ 1 ≤ f ∧ f ≤ 9999999 ∧
  (rtM row f = none → ∀ H', Same H H' → Q .non H') ∧ (∀ ns, rtM row f = some ns → ∀ p H', H p = none → Same H H' → H' p = some (.lst (ns.map V.int)) → Q (.ref p) H')
theorem bl_str : Str.ofString " " = ⟨#[32]⟩ := by decide +kernel
theorem sc_read_tier : FnScope ["row", "fresh", "words", "numbers"] ["row", "fresh"] (defScope s_read_tier) := ⟨rfl, rfl, rfl, by decide +kernel, rfl, by decide +kernel, by decide +kernel⟩
theorem ok_read_tier (T : Txt K mg) {f : Addr} {fd : FuncData} (N : Fn K mg "read_tier" s_read_tier ["row", "fresh"] f fd) : FnOk P w K mg base CX0 (4) f fd ["row", "fresh"] (spRtier) := by
  obtain ⟨_, _, N_read_figures⟩ := T.f_read_figures
  have G_read_figures := ok_read_figures (P := P) (w := w) (base := base) T N_read_figures 
  refine N.fu.okB sc_read_tier (fun vs H Q E h => ?_) (fun cdv A outer s H vs Q E hr h => ?_)
  · obtain ⟨row, f', rfl, _⟩ := h
    rfl
  · obtain ⟨row, f', rfl, hrow, hf1, hf, qn, qs⟩ := h
    refine ⟨_, (bss_cons (bs_set (i := 2) sc_read_tier.nd rfl (by first | exact Or.inl rfl | exact Or.inr rfl) (bm_split (bv 0) (ba_c b_str ba_nil rfl)))
    (bss_cons (bs_setlc (x := "word") (ix := [1]) (fv := ["fresh"]) (osc := defScope s_read_tier) rfl ⟨rfl, by decide +kernel, by decide +kernel, by rfl, by decide +kernel, by decide +kernel, by decide +kernel⟩ (by rfl) (bi_list (b_slice s_any (bv 2) (bo_some b_int) bo_none)) (fun _ _ _ _ => bf_nil) (fun _ _ _ _ => (b_f N_read_figures G_read_figures (hr.mono (by first | decide | omega)) (ba_c (bv 0) (ba_c b_int (ba_c (b_op op_sub (bv 1) b_int) ba_nil rfl) rfl) rfl))) (iy := 3) sc_read_tier.nd rfl (by first | exact Or.inl rfl | exact Or.inr rfl))
    (bss_one (bs_ret (b_if (bt_w (bw_and (bt_cmp (o_eqD (room100 hr)) (b_ix ix_seq (bv 2) b_int (fun _ _ => rfl)) b_str (nomark _)) (bw_and1 (bt_cmp op_notIn_seq b_non (bv 3) rfl)))) (bv 3) b_non))))), ?_⟩
    kas_types
    lcg_off
    refine ⟨rfl, ?_⟩
    lcg_off
    refine rd_split (by decide +kernel) (by rw [sizeLine_eq]; omega) (fun p1 H1 hp1 s1 hl1 => ?_)
    have hwl : (wordsT row).length ≤ 5002 := Nat.le_trans (splitN_le _ _) (by omega)
    have hww : ∀ z ∈ wordsT row, z.length ≤ 5000 := fun z hz => by
      unfold wordsT at hz
      rw [bl_str] at hz
      have := split_word hz
      omega
    rw [show Txt.split row (Str.ofString " ") = wordsT row from rfl] at hl1
    have hone : 1 ≤ (wordsT row).length := splitN_pos _ _
    lcg_off
    refine rd_slL (SqL.of hl1) (fun p2 H2 hp2 s2 hl2 => ?_)
    rw [show cutV ((wordsT row).map V.str) (some 1) none = ((wordsT row).drop 1).map V.str from by rw [show (1 : Int) = ((1 : Nat) : Int) from rfl, cutV_from _ (by rw [List.length_map]; omega), List.map_drop]] at hl2
    have hdl : ((wordsT row).drop 1).length ≤ 5002 := by rw [List.length_drop]; omega
    have hdw : ∀ z ∈ (wordsT row).drop 1, z.length ≤ 5000 := fun z hz => hww z (List.mem_of_mem_drop hz)
    lcg_off
    refine lcWl (xs := ((wordsT row).drop 1).map V.str) (fun i ys G => Same H2 G ∧ i ≤ ((wordsT row).drop 1).length ∧ ys = optsV ((((wordsT row).drop 1).take i).map (tnum f'))) (by rw [List.length_map, sizeLine_eq]; omega) ⟨Same.refl _, Nat.zero_le _, rfl⟩ (fun i ys G h => ⟨SqL.of (h.1 _ _ hl2), ?_⟩) (fun i v ys G hv h => ?_) (fun ys p3 G H3 h hp3 sp h3 => ?_)
    · rw [h.2.2]
      unfold optsV
      rw [List.length_map, List.length_map, List.length_take]
      have := h.2.1
      omega
    · obtain ⟨sG, hi, rfl⟩ := h
      rw [List.getElem?_map] at hv
      cases hn : ((wordsT row).drop 1)[i]? with
      | none => rw [hn] at hv; cases hv
      | some z =>
        rw [hn] at hv
        obtain rfl := Option.some.inj hv
        have hz := hdw z (List.mem_of_getElem? hn)
        lcg_off
        rw [show (f' : Int) - 1 = ((f' - 1 : Nat) : Int) by omega]
        refine rf_use (by omega) (by omega) (log_small _ (by omega)) (by have := numT_l7 (n := f' - 1) (by omega); show (numT (f' - 1)).length ≤ 10; omega) (fun H4 s4 => ?_)
        refine ⟨sG.trans s4, (List.getElem?_eq_some_iff.mp hn).1, ?_⟩
        rw [List.take_add_one, hn, List.map_append]
        unfold optsV
        rw [List.map_append]
        rfl
    · obtain ⟨sG, _, rfl⟩ := h
      rw [List.length_map, List.take_length] at h3
      obtain ⟨w, ws, hw⟩ : ∃ w ws, wordsT row = w :: ws := by unfold wordsT; rw [bl_str]; exact split_cons _ _
      have hl13 : H3 p1 = some (.lst (V.str w :: ws.map V.str)) := by rw [hw] at hl1; exact sp _ _ (sG _ _ (s2 _ _ hl1))
      have hm : rtM row f' = if w = Str.ofString "tier" ∧ none ∉ ((wordsT row).drop 1).map (tnum f') then some (gotN (((wordsT row).drop 1).map (tnum f'))) else none := by
        unfold rtM
        rw [show (wordsT row).head? = some w by rw [hw]; rfl]
        simp only [Option.some.injEq]
      have sA := ((s1.trans s2).trans sG)
      generalize ((wordsT row).drop 1).map (tnum f') = xs at *
      lcg_off
      refine rd_ixL (SqL.of hl13) (v := .str w) (atI_nat (j := 0) rfl) ?_
      lcg_off
      have kn : (¬ (w = Str.ofString "tier" ∧ none ∉ xs)) → Q .non H3 := fun hno => qn (by rw [hm, if_neg hno]) _ (sA.trans sp)
      by_cases hwt : w = Str.ofString "tier"
      · rw [decide_eq_true hwt]
        lcg_off
        refine ⟨p3, _, rfl, .inl (SqL.of h3), rfl, optsV_flat xs, ?_⟩
        rw [inV_opts]
        by_cases hx : none ∈ xs
        · rw [decide_eq_true hx, show (if true = true then !true else true) = false from rfl]
          lcg_off
          exact kn fun z => z.2 hx
        · rw [decide_eq_false hx, show (if true = true then !false else false) = true from rfl]
          lcg_off
          exact qs _ (by rw [hm, if_pos ⟨hwt, hx⟩]) _ _ (sA.free hp3) (sA.trans sp) (by rw [← optsV_got hx]; exact h3)
      · rw [decide_eq_false hwt]
        lcg_off
        exact kn fun z => hwt z.1

end
end T53


set_option Elab.async false
set_option linter.all false
set_option maxRecDepth 100000
set_option maxHeartbeats 4000000
namespace T53
open PySem L2
local macro_rules | `(tactic| lcg_src) => `(tactic| first | with_reducible assumption | ((with_reducible refine' Same.get ?s ?e); (case s => with_reducible assumption); (case e => lcg_src)))
local macro_rules | `(tactic| lcg_sub) => `(tactic| first | with_reducible assumption | with_reducible exact Same.refl _ | ((with_reducible refine' Same.tr ?s ?e); (case s => with_reducible assumption); (case e => lcg_sub)))
local macro_rules | `(tactic| keq_rows) => `(tactic| first | with_reducible assumption | with_reducible exact Rep.int' | with_reducible exact Rep.str' | with_reducible exact Rep.bl' | with_reducible exact Rep.non' | ((with_reducible refine' Rep.same ?s ?e); (case s => with_reducible assumption); (case e => keq_rows)) | ((with_reducible refine' Rep.mkT ?c ?_); (case c => lcg_src); keq_hits) | ((with_reducible refine' Rep.mkL ?c ?_); (case c => lcg_src); keq_hits) | ((with_reducible refine' Rep.mkD ?c); (case c => lcg_src)))
local macro_rules | `(tactic| keq_hits) => `(tactic| first | with_reducible assumption | with_reducible exact Reps.nil' | ((with_reducible refine' Reps.cons' ?c ?_); (case c => keq_rows); keq_hits) | ((with_reducible refine' Reps.same ?s ?e); (case s => with_reducible assumption); (case e => keq_hits)))
local macro_rules | `(tactic| tlg_ne) => `(tactic| first | with_reducible assumption | ((with_reducible refine' SqL.of ?c); (case c => lcg_src)) | ((with_reducible refine' SqT.of ?c); (case c => lcg_src)) | ((with_reducible refine' SqL.same ?s ?e); (case s => with_reducible assumption); (case e => tlg_ne)))
local macro_rules | `(tactic| kpc_turns) => `(tactic| first | decide | omega | (constructor <;> first | decide | omega))
local macro_rules | `(tactic| kas_types) => `(tactic| simp only [cxK, cxK', compK, triedK, heldXK, start_cc, start_cn, start_nn])
local macro_rules | `(tactic| kpt_turns) => `(tactic| first
  | refine rd_go ?_
  | ((with_reducible refine' rd_mod ?c ?_); (case c => kpc_turns))
  | ((with_reducible refine' rd_fdiv ?c ?_); (case c => kpc_turns))
  | ((with_reducible refine' rd_mulI ?c ?_); (case c => first | exact .inl (by kpc_turns) | exact .inr (by kpc_turns)))
  | ((with_reducible refine' rd_mkT ?c ?_); (case c => (simp only [List.length_cons, List.length_nil]; decide)); intro _ _ _ _)
  | ((with_reducible refine' rd_mkL ?c ?_); (case c => (simp only [List.length_cons, List.length_nil]; decide)); intro _ _ _ _ _)
  | ((with_reducible refine' rd_ixT ?c ?d ?_); (case c => tlg_ne); (case d => exact rfl))
  | ((with_reducible refine' rd_ixL ?c ?d ?_); (case c => tlg_ne); (case d => exact rfl))
  | ((with_reducible refine' rd_isT ?c ?_); (case c => lcg_src))
  | ((with_reducible refine' rd_isL ?c ?_); (case c => lcg_src))
  | ((with_reducible refine' rd_isD ?c ?_); (case c => lcg_src))
  | ((with_reducible refine' rd_lenT ?c ?_); (case c => tlg_ne))
  | ((with_reducible refine' rd_lenL ?c ?_); (case c => tlg_ne))
  | ((with_reducible refine' rd_lenS ?c ?_); (case c => first | assumption | (show _ ≤ 16777216; decide) | omega))
  | ((with_reducible refine' rd_slT ?c ?d ?_); (case c => tlg_ne); (case d => simp [HT.sIx]; done); intro _ _ _ h; (simp [cutV, HT.sIx] at h))
  | ((with_reducible refine' rd_bmL ?c ?_); (case c => lcg_src))
  | ((with_reducible refine' rd_shr ?c ?_); (case c => omega))
  | ((with_reducible refine' rd_dnew ?_); intro _ _ _ _ _)
  | ((with_reducible refine' rd_pow ?c ?_); (case c => kpc_turns))
  | ((with_reducible refine' rd_exL ?c ?_); (case c => tlg_ne))
  | ((with_reducible refine' rd_exT ?c ?_); (case c => tlg_ne))
  | ((with_reducible refine' rd_exr1 ?c ?_); (case c => kpc_turns))
  | ((with_reducible refine' rd_exr2 ?c ?_); (case c => refine ⟨?_, ?_, ?_, ?_⟩ <;> first | decide | omega))
  | ((with_reducible refine' rd_gTup ?c ?d ?_); (case c => tlg_ne); (case d => exact rfl))
  | ((with_reducible refine' rd_listL ?c ?_); (case c => tlg_ne); intro _ _ _ _ _)
  | ((with_reducible refine' rd_listT ?c ?_); (case c => tlg_ne); intro _ _ _ _ _)
  | ((with_reducible refine' rd_addL ?c ?d ?e ?_); (case c => lcg_src); (case d => lcg_src); (case e => first | (simp only [List.length_cons, List.length_nil]; decide) | (simp only [List.length_cons, List.length_nil, List.length_append, sizeLine_eq]; omega)); intro _ _ _ _ h; (try simp only [List.cons_append, List.nil_append] at h))
  | ((with_reducible refine' rd_addT ?c ?d ?f ?e ?_); (case c => lcg_src); (case d => lcg_src); (case f => (intro h; cases h)); (case e => first | (simp only [List.length_cons, List.length_nil]; decide) | (simp only [List.length_cons, List.length_nil, List.length_append, sizeLine_eq]; omega)); intro _ _ _ h; (try simp only [List.cons_append, List.nil_append] at h)))
local macro_rules | `(tactic| lcg_off) => `(tactic| repeat kpt_turns)
local macro_rules | `(tactic| kaf_pre) => `(tactic| ((with_reducible refine' rd_menu ?c ?a ?b ?_); (case c => tlg_ne); (case a => first | exact Int.emod_nonneg _ (by decide) | omega); (case b => first | exact Int.emod_lt_of_pos _ (by decide) | (simp only [List.length_cons, List.length_nil]; omega))))
local macro_rules | `(tactic| kaf_suf) => `(tactic| ((with_reducible refine' rd_pick ?c ?a ?b ?_); (case c => tlg_ne); (case a => first | exact Int.emod_nonneg _ (by decide) | omega); (case b => first | exact Int.emod_lt_of_pos _ (by decide) | (simp only [List.length_cons, List.length_nil]; omega))))
section
variable {P : Program} {w : World} {K : PySem.W.Frag} {mg : Str → Option Value} {base : Heap}
/-! ### rows of any text -/
def rowsM (x : Str) : List Str := (Txt.split x (Str.ofString "\n")).dropLast
theorem nl_str : Str.ofString "\n" = ⟨#[10]⟩ := by decide +kernel
def spRowsOf : Sp := fun vs H Q _ => ∃ x : Str, vs = [.str x] ∧ x.length ≤ 1000000 ∧ ∀ p H', H p = none → Same H H' → H' p = some (.lst ((rowsM x).map V.str)) → Q (.ref p) H'
theorem sc_rows_of : FnScope ["text"] ["text"] (defScope s_rows_of) := ⟨rfl, rfl, rfl, by decide +kernel, rfl, by decide +kernel, by decide +kernel⟩
theorem ok_rows_of (T : Txt K mg) {f : Addr} {fd : FuncData} (N : Fn K mg "rows_of" s_rows_of ["text"] f fd) : FnOk P w K mg base CX0 (1) f fd ["text"] (spRowsOf) := by
  refine N.fu.okB sc_rows_of (fun vs H Q E h => ?_) (fun cdv A outer s H vs Q E hr h => ?_)
  · obtain ⟨x, rfl, _⟩ := h
    rfl
  · obtain ⟨x, rfl, hl, q⟩ := h
    refine ⟨_, (bss_one (bs_ret (b_slice s_any (bm_split (bv 0) (ba_c b_str ba_nil rfl)) bo_none (bo_some (b_un un_neg b_int))))), ?_⟩
    kas_types
    lcg_off
    refine ⟨rfl, ?_⟩
    lcg_off
    refine rd_split (by decide +kernel) (by rw [sizeLine_eq]; omega) (fun p1 H1 hp1 s1 hl1 => ?_)
    obtain ⟨y, hy⟩ : ∃ y, Txt.split x (Str.ofString "\n") = rowsM x ++ [y] := by
      have h1 := splitN_pos x (Str.ofString "\n")
      have hne : Txt.split x (Str.ofString "\n") ≠ [] := fun e => by rw [e] at h1; exact absurd h1 (by decide)
      exact ⟨_, (List.dropLast_concat_getLast hne).symm⟩
    rw [hy, List.map_append] at hl1
    lcg_off
    refine rd_slL (SqL.of hl1) (fun p2 H2 hp2 s2 hl2 => ?_)
    rw [show ([y].map V.str) = [V.str y] from rfl, cutV_last] at hl2
    lcg_off
    exact q _ _ (Same.free s1 hp2) (s1.trans s2) hl2
theorem rowsOf_use {H : Hp} {Q : VK} {E : XK} (x : Str) (h2 : x.length ≤ 1000000) (q : ∀ p H', H p = none → Same H H' → H' p = some (.lst ((rowsM x).map V.str)) → Q (.ref p) H') : spRowsOf [.str x] H Q E := ⟨x, rfl, h2, q⟩
/-! ### numbers unlike, or not -/
def spUnl (K : PySem.W.Frag) : Sp := fun vs H Q _ => ∃ p, ∃ ns : List Int, vs = [.ref p] ∧ H p = some (.lst (ns.map V.int)) ∧ ns.length < 4000 ∧ ∀ H', Same H H' → Q (.bl (decide ns.Nodup)) H'
theorem sc_are_unlike : FnScope ["numbers"] ["numbers"] (defScope s_are_unlike) := ⟨rfl, rfl, rfl, by decide +kernel, rfl, by decide +kernel, by decide +kernel⟩
theorem ok_are_unlike (T : Txt K mg) {f : Addr} {fd : FuncData} (N : Fn K mg "are_unlike" s_are_unlike ["numbers"] f fd) : FnOk P w K mg base CX0 (1) f fd ["numbers"] (spUnl K) := by
  refine N.fu.okB sc_are_unlike (fun vs H Q E h => ?_) (fun cdv A outer s H vs Q E hr h => ?_)
  · obtain ⟨p, ns, rfl, _⟩ := h
    rfl
  · obtain ⟨p, ns, rfl, hp, hl, q⟩ := h
    refine ⟨_, (bss_one (bs_ret (b_cmp (o_eqD (room100 hr)) (b_b c_lenI T.b_len (by kernel_rfl) (ba_c (b_t c_setG T.b_set (by kernel_rfl) (ba_c (bv 0) ba_nil rfl)) ba_nil rfl)) (b_b c_len T.b_len (by kernel_rfl) (ba_c (bv 0) ba_nil rfl)) (nomark _)))), ?_⟩
    kas_types
    lcg_off
    refine rd_setG ns (SqL.of hp) hl (fun S l H1 hl1 s1 h1 => ?_)
    have hd := distN_le ns
    lcg_off
    refine rd_lenI h1 (by omega) ?_
    lcg_off
    rw [List.length_map]
    have e : decide (((distN ns : Nat) : Int) = ((ns.length : Nat) : Int)) = decide ns.Nodup := decide_eq_decide.mpr ⟨fun h => (distN_iff ns).mp (by omega), fun h => by rw [(distN_iff ns).mpr h]⟩
    rw [e]
    exact q _ s1
theorem unl_use {K : PySem.W.Frag} {H : Hp} {Q : VK} {E : XK} {p : Addr} (ns : List Int) (h1 : H p = some (.lst (ns.map V.int))) (h2 : ns.length < 4000) (q : ∀ H', Same H H' → Q (.bl (decide ns.Nodup)) H') : spUnl K [.ref p] H Q E := ⟨p, ns, rfl, h1, h2, q⟩
/-! ### all tiers, right or wrong -/
def rowI (ns : List Int) : D := .tup (ns.map D.int)
theorem noL_ints : ∀ ns : List Int, noLs (ns.map D.int) = true
  | [] => by simp [noLs]
  | n :: ns => by rw [List.map_cons]; simp only [noLs, noL, noL_ints ns]; rfl
theorem noL_rows : ∀ rs : List (List Int), noLs (rs.map rowI) = true
  | [] => by simp [noLs]
  | r :: rs => by
    rw [List.map_cons]
    simp only [noLs, noL_rows rs]
    unfold rowI
    simp only [noL, noL_ints]
    rfl
theorem int_reps {H : Hp} : ∀ ns : List Int, Reps H (ns.map D.int) (ns.map V.int)
  | [] => Reps.nil'
  | _ :: ns => Reps.cons' Rep.int' (int_reps ns)
def lineM (zs : List Str) (f : Nat) (st : List Int) (i : Nat) : Option (List Int) := (rtM (rowAtM zs (i + 2)) f).bind fun ns => if (st ++ ns).Nodup ∧ (i = 0 ∨ ns.length ≤ 1) then some ns else none
def GoodT (zs : List Str) (f : Nat) (told : List (List Int)) : Prop := ∀ j ns, told[j]? = some ns → lineM zs f (told.take j).flatten j = some ns
theorem rt_len {row : Str} {f : Nat} {ns : List Int} (h : rtM row f = some ns) : ns.length ≤ row.length + 1 := by
  unfold rtM at h
  split at h
  · obtain rfl := Option.some.inj h
    have h2 := splitN_le row (Str.ofString " ")
    unfold gotN
    rw [List.length_map, List.length_map, List.length_drop]
    unfold wordsT
    omega
  · cases h
theorem good_snoc {zs : List Str} {f : Nat} {told : List (List Int)} {ns : List Int} (g : GoodT zs f told) (h : lineM zs f told.flatten told.length = some ns) : GoodT zs f (told ++ [ns]) := by
  intro j ms hj
  by_cases c : j < told.length
  · rw [List.getElem?_append_left c] at hj
    rw [List.take_append_of_le_length (by omega)]
    exact g j ms hj
  · have hl : j < (told ++ [ns]).length := (List.getElem?_eq_some_iff.mp hj).1
    rw [List.length_append, List.length_cons, List.length_nil] at hl
    obtain rfl : j = told.length := by omega
    rw [List.getElem?_concat_length] at hj
    obtain rfl := Option.some.inj hj
    rw [List.take_left]
    exact h
def spRall (c : Cs) : Sp := fun vs H Q E => ∃ (p : Addr) (zs : List Str) (f : Nat), vs = [.ref p, .int (f : Nat)] ∧ H p = some (.lst (zs.map V.str)) ∧ (∀ j, (rowAtM zs (j + 2)).length ≤ 1000) ∧ 1 ≤ f ∧ f ≤ 9999999 ∧
  (∀ told v H', told.length = 3 → GoodT zs f told → Same H H' → Rep H' (.tup (told.map rowI)) v → Q v H') ∧
  (∀ told, told.length < 3 → GoodT zs f told → lineM zs f told.flatten told.length = none → ∀ dx H', Same H H' → H dx = none → H' dx = some (.xd [("line", .int ((told.length + 3 : Nat) : Int))]) → E (.ref c.BadTiers) (some dx) H')
theorem sc_read_all_tiers : FnScope ["rows", "fresh", "told", "stood_ahead", "line", "numbers"] ["rows", "fresh"] (defScope s_read_all_tiers) := ⟨rfl, rfl, rfl, by decide +kernel, rfl, by decide +kernel, by decide +kernel⟩
theorem ok_read_all_tiers (T : Txt K mg) {c : Cs} (Z : Cl K mg c) {f : Addr} {fd : FuncData} (N : Fn K mg "read_all_tiers" s_read_all_tiers ["rows", "fresh"] f fd) : FnOk P w K mg base (CXE P w) (6) f fd ["rows", "fresh"] (spRall c) := by
  obtain ⟨_, _, N_read_tier⟩ := T.f_read_tier
  have G_read_tier := ok_read_tier (P := P) (w := w) (base := base) T N_read_tier 
  obtain ⟨_, _, N_row_at⟩ := T.f_row_at
  have G_row_at := ok_row_at (P := P) (w := w) (base := base) T N_row_at 
  obtain ⟨_, _, N_are_unlike⟩ := T.f_are_unlike
  have G_are_unlike := ok_are_unlike (P := P) (w := w) (base := base) T N_are_unlike 
  obtain ⟨_, FI_BadTiers, bI_BadTiers⟩ := Z.i_BadTiers
  have GI_BadTiers := ok_BadTiers_init (P := P) (w := w) (base := base) T Z FI_BadTiers
  refine N.fu.okE sc_read_all_tiers (fun vs H Q E h => ?_) (fun cdv A outer s H vs Q E hr h => ?_)
  · obtain ⟨p, zs, f', rfl, _⟩ := h
    rfl
  · obtain ⟨p, zs, f', rfl, hp, hz, hf1, hf, q, qe⟩ := h
    refine ⟨_, (bss_cons (bs_set (i := 2) sc_read_all_tiers.nd rfl (by first | exact Or.inl rfl | exact Or.inr rfl) (b_lst ba_nil))
    (bss_cons (bs_set (i := 3) sc_read_all_tiers.nd rfl (by first | exact Or.inl rfl | exact Or.inr rfl) (b_lst ba_nil))
    (bss_cons (bs_for PassesOwn.leaving rfl (bi_r2 T.b_range (ba_c (b_gl T.g_FIRST_TIER_LINE) (ba_c (b_op o_add (b_gl T.g_LAST_LINE) b_int) ba_nil rfl) rfl)) (bg_name (i := 4) sc_read_all_tiers.nd rfl (by first | exact Or.inl rfl | exact Or.inr rfl))
      (bss_cons (bs_set (i := 5) sc_read_all_tiers.nd rfl (by first | exact Or.inl rfl | exact Or.inr rfl) (b_f N_read_tier G_read_tier (hr.mono (by first | decide | omega)) (ba_c (b_f N_row_at G_row_at (hr.mono (by first | decide | omega)) (ba_c (bv 0) (ba_c (bv 4) ba_nil rfl) rfl)) (ba_c (bv 1) ba_nil rfl) rfl)))
    (bss_cons (bs_if (bt_w (bw_or (bt_cmp o_is (bv 5) b_non (nomark _)) (bw_or1 (bt_not (bt_val (b_f N_are_unlike G_are_unlike (hr.mono (by first | decide | omega)) (ba_c (b_op o_add (bv 3) (bv 5)) ba_nil rfl)) (fun _ => rfl))))))
      (bss_one (bs_raiseI throws_of rfl ⟨Z.m_BadTiers, Z.xi_BadTiers⟩ GI_BadTiers (hr.mono (by first | decide | omega)) bI_BadTiers (ba_c (bv 4) ba_nil rfl)))
      bss_nil)
    (bss_cons (bs_if (bt_w (bw_and (bt_cmp op_gt (bv 4) (b_gl T.g_FIRST_TIER_LINE) (nomark _)) (bw_and1 (bt_cmp op_gt (b_b c_len T.b_len (by kernel_rfl) (ba_c (bv 5) ba_nil rfl)) b_int (nomark _)))))
      (bss_one (bs_raiseI throws_of rfl ⟨Z.m_BadTiers, Z.xi_BadTiers⟩ GI_BadTiers (hr.mono (by first | decide | omega)) bI_BadTiers (ba_c (bv 4) ba_nil rfl)))
      bss_nil)
    (bss_cons (bs_expr (bm_append (bv 2) (ba_c (b_t c_tuple T.b_tuple (by kernel_rfl) (ba_c (bv 5) ba_nil rfl)) ba_nil rfl)))
    (bss_one (bs_expr (bm_extend (bv 3) (ba_c (bv 5) ba_nil rfl)))))))))
    (bss_one (bs_ret (b_t c_tuple T.b_tuple (by kernel_rfl) (ba_c (bv 2) ba_nil rfl))))))), ?_⟩
    kas_types
    lcg_off
    rename_i pt H1 hpt s1 h1 ps H2 hps s2 h2
    have nps : ps ≠ pt := fun z => by rw [z, h1] at hps; cases hps
    have hps0 : H ps = none := s1.free hps
    refine forR (fun i σ G => ∃ told vs o4 o5, σ = [some (.ref p), some (.int (f' : Nat)), some (.ref pt), some (.ref ps), o4, o5] ∧ Same H G ∧ G pt = some (.lst vs) ∧ told.length = i ∧ vs.length = i ∧ told.flatten.length ≤ 1001 * i ∧ GoodT zs f' told ∧ G ps = some (.lst (told.flatten.map V.int)) ∧ Reps G (told.map rowI) vs) ⟨[], [], none, none, rfl, by lcg_sub, by lcg_src, rfl, rfl, Nat.le_refl 0, (fun j ns h => by cases h), h2, Reps.nil'⟩ (fun i σ G hi h => ?_) (fun σ G h => ?_)
    · obtain ⟨told, vs, o4, o5, rfl, sG, gpt, htl, hvl, hfl, hg, gps, hrs⟩ := h
      have hi3 : i < 3 := hi
      have hq : lineM zs f' told.flatten i = none → ∀ dx H', Same H H' → H dx = none → H' dx = some (.xd [("line", .int (3 + (i : Int)))]) → E (.ref c.BadTiers) (some dx) H' := fun hn dx H' s n x => qe told (by omega) hg (by rw [htl]; exact hn) dx H' s n (by rw [x, htl, show ((i + 3 : Nat) : Int) = 3 + (i : Int) by omega])
      lcg_off
      refine rowAt_use zs (i + 2) (by omega) (sG _ _ hp) ?_
      lcg_off
      have hrow := hz i
      refine ⟨_, f', rfl, by omega, hf1, hf, fun hn G1 sG1 => ?_, fun ns hns pn G1 hpn sG1 hG1 => ?_⟩
      · lcg_off
        exact rd_raiseI (fun dx H' s n x => hq (by unfold lineM; rw [hn]; rfl) dx H' ((sG.trans sG1).trans s) ((sG.trans sG1).free n) x)
      have hnl := rt_len hns
      have npn1 : pn ≠ pt := fun z => by rw [z, gpt] at hpn; cases hpn
      have npn2 : pn ≠ ps := fun z => by rw [z, gps] at hpn; cases hpn
      have hfl2 : told.flatten.length ≤ 2002 := by omega
      lcg_off
      refine rd_addL (by lcg_src) hG1 (by rw [List.length_map, List.length_map, sizeLine_eq]; omega) (fun pa G2 hpa sG2 hG2 => ?_)
      rw [← List.map_append] at hG2
      lcg_off
      refine unl_use _ hG2 (by rw [List.length_append]; omega) (fun G3 sG3 => ?_)
      have hlm : lineM zs f' told.flatten i = if (told.flatten ++ ns).Nodup ∧ (i = 0 ∨ ns.length ≤ 1) then some ns else none := by unfold lineM; rw [hns]; rfl
      have hr3 : lineM zs f' told.flatten i = none → ∀ dx H', Same G3 H' → G3 dx = none → H' dx = some (.xd [("line", .int (3 + (i : Int)))]) → E (.ref c.BadTiers) (some dx) H' := fun hn dx H' s n x => by
        have e : Same H G3 := by
          clear s
          lcg_sub
        exact hq hn dx H' (e.trans s) (e.free n) x
      by_cases hnd : (told.flatten ++ ns).Nodup
      case neg =>
        rw [decide_eq_false hnd]
        lcg_off
        exact rd_raiseI (hr3 (by rw [hlm]; exact if_neg fun z => hnd z.1))
      rw [decide_eq_true hnd]
      lcg_off
      have key : (i = 0 ∨ ns.length ≤ 1) → lineM zs f' told.flatten told.length = some ns := fun z => by rw [htl, hlm, if_pos ⟨hnd, z⟩]
      have hn1 : 3 < (3 : Int) + i → ¬ i = 0 := fun z => by omega
      have hn2 : ¬ 3 < (3 : Int) + i → i = 0 := fun z => by omega
      refine ite_dec (fun h3 => ?_) (fun h3 => ?_)
      focus
        lcg_off
        rw [List.length_map]
        refine ite_dec (fun h4 => ?_) (fun h4 => ?_)
        · lcg_off
          exact rd_raiseI (hr3 (by rw [hlm]; exact if_neg fun z => by have := hn1 h3; rcases z.2 with z | z <;> omega))
        replace key := key (.inr (by omega))
      rotate_left
      focus
        replace key := key (.inl (hn2 h3))
      all_goals
        lcg_off
        refine rd_tupleL (by tlg_ne) (fun pz G4 hpz sG4 hG4 => ?_)
        lcg_off
        have g4 : G4 pt = some (.lst vs) := by lcg_src
        have g4s : G4 ps = some (.lst (told.flatten.map V.int)) := by lcg_src
        have g4n : G4 pn = some (.lst (ns.map V.int)) := by lcg_src
        have r4 : Reps G4 (told.map rowI) vs := by keq_hits
        have s4 : Same H G4 := by lcg_sub
        refine rd_append g4 (by rw [sizeLine_eq]; omega) ?_
        lcg_off
        have u1 : upd G4 pt (.lst (vs ++ [.ref pz])) ps = some (.lst (told.flatten.map V.int)) := by rw [upd_ne nps]; exact g4s
        have u2 : upd G4 pt (.lst (vs ++ [.ref pz])) pn = some (.lst (ns.map V.int)) := by rw [upd_ne npn1]; exact g4n
        refine ⟨.inl ⟨rfl, _, SqL.of u1⟩, ?_⟩
        lcg_off
        refine rd_extend u1 u2 (by rw [List.length_map, List.length_map, sizeLine_eq]; omega) ?_
        have hfe : (told ++ [ns]).flatten = told.flatten ++ ns := by rw [List.flatten_append]; simp
        refine ⟨told ++ [ns], vs ++ [.ref pz], _, _, rfl, same_updL (same_updL s4 hpt) hps0, ?_, by rw [List.length_append, htl]; rfl, by rw [List.length_append, hvl]; rfl, by rw [hfe, List.length_append]; omega, good_snoc hg key, ?_, ?_⟩
        · rw [upd_ne nps.symm]; exact upd_same
        · rw [hfe, List.map_append]; exact upd_same
        · have r5 : Reps G4 ((told ++ [ns]).map rowI) (vs ++ [.ref pz]) := by
            rw [List.map_append]
            exact r4.append (Reps.cons' (Rep.mkT hG4 (int_reps ns)) Reps.nil')
          exact (r5.stay (tups_upd g4) (noL_rows _)).stay (tups_upd u1) (noL_rows _)
    · obtain ⟨told, vs, o4, o5, rfl, sG, gpt, htl, hvl, hfl, hg, gps, hrs⟩ := h
      lcg_off
      refine rd_tupleL (SqL.of gpt) (fun pz G4 hpz sG4 hG4 => ?_)
      exact q _ _ _ htl hg (sG.trans sG4) (Rep.mkT hG4 (hrs.same sG4))

end
end T53


set_option Elab.async false
set_option linter.all false
set_option maxRecDepth 100000
set_option maxHeartbeats 4000000
namespace T53
open PySem L2
local macro_rules | `(tactic| lcg_src) => `(tactic| first | with_reducible assumption | ((with_reducible refine' Same.get ?s ?e); (case s => with_reducible assumption); (case e => lcg_src)))
local macro_rules | `(tactic| lcg_sub) => `(tactic| first | with_reducible assumption | with_reducible exact Same.refl _ | ((with_reducible refine' Same.tr ?s ?e); (case s => with_reducible assumption); (case e => lcg_sub)))
local macro_rules | `(tactic| keq_rows) => `(tactic| first | with_reducible assumption | with_reducible exact Rep.int' | with_reducible exact Rep.str' | with_reducible exact Rep.bl' | with_reducible exact Rep.non' | ((with_reducible refine' Rep.same ?s ?e); (case s => with_reducible assumption); (case e => keq_rows)) | ((with_reducible refine' Rep.mkT ?c ?_); (case c => lcg_src); keq_hits) | ((with_reducible refine' Rep.mkL ?c ?_); (case c => lcg_src); keq_hits) | ((with_reducible refine' Rep.mkD ?c); (case c => lcg_src)))
local macro_rules | `(tactic| keq_hits) => `(tactic| first | with_reducible assumption | with_reducible exact Reps.nil' | ((with_reducible refine' Reps.cons' ?c ?_); (case c => keq_rows); keq_hits) | ((with_reducible refine' Reps.same ?s ?e); (case s => with_reducible assumption); (case e => keq_hits)))
local macro_rules | `(tactic| tlg_ne) => `(tactic| first | with_reducible assumption | ((with_reducible refine' SqL.of ?c); (case c => lcg_src)) | ((with_reducible refine' SqT.of ?c); (case c => lcg_src)) | ((with_reducible refine' SqL.same ?s ?e); (case s => with_reducible assumption); (case e => tlg_ne)))
local macro_rules | `(tactic| kpc_turns) => `(tactic| first | decide | omega | (constructor <;> first | decide | omega))
local macro_rules | `(tactic| kas_types) => `(tactic| simp only [cxK, cxK', compK, triedK, heldXK, start_cc, start_cn, start_nn])
local macro_rules | `(tactic| kpt_turns) => `(tactic| first
  | refine rd_go ?_
  | ((with_reducible refine' rd_mod ?c ?_); (case c => kpc_turns))
  | ((with_reducible refine' rd_fdiv ?c ?_); (case c => kpc_turns))
  | ((with_reducible refine' rd_mulI ?c ?_); (case c => first | exact .inl (by kpc_turns) | exact .inr (by kpc_turns)))
  | ((with_reducible refine' rd_mkT ?c ?_); (case c => (simp only [List.length_cons, List.length_nil]; decide)); intro _ _ _ _)
  | ((with_reducible refine' rd_mkL ?c ?_); (case c => (simp only [List.length_cons, List.length_nil]; decide)); intro _ _ _ _ _)
  | ((with_reducible refine' rd_ixT ?c ?d ?_); (case c => tlg_ne); (case d => exact rfl))
  | ((with_reducible refine' rd_ixL ?c ?d ?_); (case c => tlg_ne); (case d => exact rfl))
  | ((with_reducible refine' rd_isT ?c ?_); (case c => lcg_src))
  | ((with_reducible refine' rd_isL ?c ?_); (case c => lcg_src))
  | ((with_reducible refine' rd_isD ?c ?_); (case c => lcg_src))
  | ((with_reducible refine' rd_lenT ?c ?_); (case c => tlg_ne))
  | ((with_reducible refine' rd_lenL ?c ?_); (case c => tlg_ne))
  | ((with_reducible refine' rd_lenS ?c ?_); (case c => first | assumption | (show _ ≤ 16777216; decide) | omega))
  | ((with_reducible refine' rd_slT ?c ?d ?_); (case c => tlg_ne); (case d => simp [HT.sIx]; done); intro _ _ _ h; (simp [cutV, HT.sIx] at h))
  | ((with_reducible refine' rd_bmL ?c ?_); (case c => lcg_src))
  | ((with_reducible refine' rd_shr ?c ?_); (case c => omega))
  | ((with_reducible refine' rd_dnew ?_); intro _ _ _ _ _)
  | ((with_reducible refine' rd_pow ?c ?_); (case c => kpc_turns))
  | ((with_reducible refine' rd_exL ?c ?_); (case c => tlg_ne))
  | ((with_reducible refine' rd_exT ?c ?_); (case c => tlg_ne))
  | ((with_reducible refine' rd_exr1 ?c ?_); (case c => kpc_turns))
  | ((with_reducible refine' rd_exr2 ?c ?_); (case c => refine ⟨?_, ?_, ?_, ?_⟩ <;> first | decide | omega))
  | ((with_reducible refine' rd_gTup ?c ?d ?_); (case c => tlg_ne); (case d => exact rfl))
  | ((with_reducible refine' rd_listL ?c ?_); (case c => tlg_ne); intro _ _ _ _ _)
  | ((with_reducible refine' rd_listT ?c ?_); (case c => tlg_ne); intro _ _ _ _ _)
  | ((with_reducible refine' rd_addL ?c ?d ?e ?_); (case c => lcg_src); (case d => lcg_src); (case e => first | (simp only [List.length_cons, List.length_nil]; decide) | (simp only [List.length_cons, List.length_nil, List.length_append, sizeLine_eq]; omega)); intro _ _ _ _ h; (try simp only [List.cons_append, List.nil_append] at h))
  | ((with_reducible refine' rd_addT ?c ?d ?f ?e ?_); (case c => lcg_src); (case d => lcg_src); (case f => (intro h; cases h)); (case e => first | (simp only [List.length_cons, List.length_nil]; decide) | (simp only [List.length_cons, List.length_nil, List.length_append, sizeLine_eq]; omega)); intro _ _ _ h; (try simp only [List.cons_append, List.nil_append] at h)))
local macro_rules | `(tactic| lcg_off) => `(tactic| repeat kpt_turns)
local macro_rules | `(tactic| kaf_pre) => `(tactic| ((with_reducible refine' rd_menu ?c ?a ?b ?_); (case c => tlg_ne); (case a => first | exact Int.emod_nonneg _ (by decide) | omega); (case b => first | exact Int.emod_lt_of_pos _ (by decide) | (simp only [List.length_cons, List.length_nil]; omega))))
local macro_rules | `(tactic| kaf_suf) => `(tactic| ((with_reducible refine' rd_pick ?c ?a ?b ?_); (case c => tlg_ne); (case a => first | exact Int.emod_nonneg _ (by decide) | omega); (case b => first | exact Int.emod_lt_of_pos _ (by decide) | (simp only [List.length_cons, List.length_nil]; omega))))
section
variable {P : Program} {w : World} {K : PySem.W.Frag} {mg : Str → Option Value} {base : Heap}
/-! ### the tiers' text read, right or wrong -/
def raM (zs : List Str) (f : Nat) : Nat ⊕ List (List Int) :=
  match lineM zs f [] 0 with
  | none => .inl 3
  | some a => match lineM zs f a 1 with
    | none => .inl 4
    | some b => match lineM zs f (a ++ b) 2 with
      | none => .inl 5
      | some c => .inr [a, b, c]
theorem ra_good {zs : List Str} {f : Nat} {told : List (List Int)} (hl : told.length = 3) (g : GoodT zs f told) : raM zs f = .inr told := by
  match told, hl with
  | [a, b, d], _ =>
    have h0 : lineM zs f [] 0 = some a := g 0 a rfl
    have h1 : lineM zs f a 1 = some b := by have := g 1 b rfl; simpa using this
    have h2 : lineM zs f (a ++ b) 2 = some d := by have := g 2 d rfl; simpa using this
    unfold raM
    rw [h0]; dsimp only
    rw [h1]; dsimp only
    rw [h2]
theorem ra_bad {zs : List Str} {f : Nat} {told : List (List Int)} (hl : told.length < 3) (g : GoodT zs f told) (hn : lineM zs f told.flatten told.length = none) : raM zs f = .inl (told.length + 3) := by
  match told, hl with
  | [], _ =>
    have h0 : lineM zs f [] 0 = none := hn
    unfold raM
    rw [h0]; rfl
  | [a], _ =>
    have h0 : lineM zs f [] 0 = some a := g 0 a rfl
    have h1 : lineM zs f a 1 = none := by simpa using hn
    unfold raM
    rw [h0]; dsimp only
    rw [h1]; rfl
  | [a, b], _ =>
    have h0 : lineM zs f [] 0 = some a := g 0 a rfl
    have h1 : lineM zs f a 1 = some b := by have := g 1 b rfl; simpa using this
    have h2 : lineM zs f (a ++ b) 2 = none := by simpa using hn
    unfold raM
    rw [h0]; dsimp only
    rw [h1]; dsimp only
    rw [h2]; rfl
def tiersM (x : Str) : Nat ⊕ (Int × Int × List (List Int)) :=
  match rnM (rowAtM (rowsM x) 0) (Str.ofString "fresh ") 1 9999999 with
  | none => .inl 1
  | some f => match rnM (rowAtM (rowsM x) 1) (Str.ofString "poured ") 0 999999999 with
    | none => .inl 2
    | some d => match raM (rowsM x) f.toNat with
      | .inl l => .inl l
      | .inr told => if x = rowsS ((rowsM x).take 5) then .inr (f, d, told) else .inl 6
theorem rn_range {row ah : Str} {least n : Int} {most : Nat} (h : rnM row ah least most = some n) : least ≤ n ∧ n ≤ most := by
  unfold rnM at h
  split at h
  · unfold rfM at h
    split at h
    · rename_i z
      obtain rfl := Option.some.inj h
      exact ⟨z.2.2.2.1, z.2.2.2.2⟩
    · cases h
  · cases h
theorem rt_there {zs : List Str} {j f : Nat} {ns : List Int} (h : rtM (rowAtM zs j) f = some ns) : j < zs.length := by
  by_cases c : j < zs.length
  · exact c
  · have e : rowAtM zs j = Str.ofString "" := by
      unfold rowAtM
      rw [List.getD_eq_getElem?_getD, List.getElem?_eq_none (by omega)]
      rfl
    rw [e] at h
    unfold rtM at h
    rw [if_neg (fun z => absurd z.1 (by decide +kernel))] at h
    cases h
theorem good_there {zs : List Str} {f : Nat} {told : List (List Int)} (hl : told.length = 3) (g : GoodT zs f told) : 5 ≤ zs.length := by
  match told, hl with
  | [a, b, d], _ =>
    have h2 := g 2 d rfl
    unfold lineM at h2
    cases h : rtM (rowAtM zs (2 + 2)) f with
    | none => rw [h] at h2; cases h2
    | some ns => exact rt_there h
theorem sumL_le {m : Nat} : ∀ {zs : List Str}, (∀ z ∈ zs, z.length ≤ m) → sumL zs ≤ m * zs.length
  | [], _ => Nat.zero_le _
  | z :: zs, h => by
    have h1 := h z List.mem_cons_self
    have h2 := sumL_le (zs := zs) fun y hy => h y (List.mem_cons_of_mem _ hy)
    unfold sumL at h2 ⊢
    rw [List.map_cons, List.sum_cons, List.length_cons, Nat.mul_succ]
    omega
theorem rowsM_le {x z : Str} (h : z ∈ rowsM x) : z.length ≤ x.length := by
  unfold rowsM at h
  rw [nl_str] at h
  exact split_word ((List.dropLast_sublist _).subset h)
def tierJ (f d : Int) (told : List (List Int)) : D := .tup [.int f, .int d, .tup (told.map rowI)]
def okX (x : Str) : Prop := x.length ≤ 10000 ∧ (rowAtM (rowsM x) 0).length ≤ 5000 ∧ ∀ j, (rowAtM (rowsM x) (j + 1)).length ≤ 1000
def spRt (c : Cs) : Sp := fun vs H Q E => ∃ x : Str, vs = [.str x] ∧ okX x ∧
  (∀ f d told, tiersM x = .inr (f, d, told) → ∀ v H', Same H H' → Rep H' (tierJ f d told) v → Q v H') ∧
  (∀ l, tiersM x = .inl l → ∀ dx H', Same H H' → H dx = none → H' dx = some (.xd [("line", .int ((l : Nat) : Int))]) → E (.ref c.BadTiers) (some dx) H')
theorem rall_use {c : Cs} {H : Hp} {Q : VK} {E : XK} {p : Addr} {n : Int} (zs : List Str) (f : Nat) (hn : n = (f : Nat)) (h1 : H p = some (.lst (zs.map V.str))) (h2 : ∀ j, (rowAtM zs (j + 2)).length ≤ 1000) (h3 : 1 ≤ f) (h4 : f ≤ 9999999)
    (q : ∀ told v H', told.length = 3 → GoodT zs f told → Same H H' → Rep H' (.tup (told.map rowI)) v → Q v H')
    (qe : ∀ told, told.length < 3 → GoodT zs f told → lineM zs f told.flatten told.length = none → ∀ dx H', Same H H' → H dx = none → H' dx = some (.xd [("line", .int ((told.length + 3 : Nat) : Int))]) → E (.ref c.BadTiers) (some dx) H') :
    spRall c [.ref p, .int n] H Q E := ⟨p, zs, f, by rw [hn], h1, h2, h3, h4, q, qe⟩
theorem sc_read_tiers : FnScope ["text", "rows", "fresh", "poured", "told"] ["text"] (defScope s_read_tiers) := ⟨rfl, rfl, rfl, by decide +kernel, rfl, by decide +kernel, by decide +kernel⟩
theorem ok_read_tiers (T : Txt K mg) {c : Cs} (Z : Cl K mg c) {f : Addr} {fd : FuncData} (N : Fn K mg "read_tiers" s_read_tiers ["text"] f fd) : FnOk P w K mg base (CXE P w) (7) f fd ["text"] (spRt c) := by
  obtain ⟨_, _, N_rows_of⟩ := T.f_rows_of
  have G_rows_of := ok_rows_of (P := P) (w := w) (base := base) T N_rows_of 
  obtain ⟨_, _, N_read_number⟩ := T.f_read_number
  have G_read_number := ok_read_number (P := P) (w := w) (base := base) T Z N_read_number 
  obtain ⟨_, _, N_read_all_tiers⟩ := T.f_read_all_tiers
  have G_read_all_tiers := ok_read_all_tiers (P := P) (w := w) (base := base) T Z N_read_all_tiers 
  obtain ⟨_, _, N_text_of_rows⟩ := T.f_text_of_rows
  have G_text_of_rows := ok_text_of_rows (P := P) (w := w) (base := base) T N_text_of_rows 
  obtain ⟨_, FI_BadTiers, bI_BadTiers⟩ := Z.i_BadTiers
  have GI_BadTiers := ok_BadTiers_init (P := P) (w := w) (base := base) T Z FI_BadTiers
  refine N.fu.okE sc_read_tiers (fun vs H Q E h => ?_) (fun cdv A outer s H vs Q E hr h => ?_)
  · obtain ⟨x, rfl, _⟩ := h
    rfl
  · obtain ⟨x, rfl, ⟨hx, hx0, hx1⟩, q, qe⟩ := h
    have hin : ∀ z ∈ (rowsM x).take 5, z.length ≤ 10000 := fun z hz => Nat.le_trans (rowsM_le (List.mem_of_mem_take hz)) hx
    have hsum := sumL_le hin
    have htk : ((rowsM x).take 5).length ≤ 5 := by rw [List.length_take]; omega
    generalize hzs : rowsM x = zs at *
    refine ⟨_, (bss_cons (bs_set (i := 1) sc_read_tiers.nd rfl (by first | exact Or.inl rfl | exact Or.inr rfl) (b_f N_rows_of G_rows_of (hr.mono (by first | decide | omega)) (ba_c (bv 0) ba_nil rfl)))
    (bss_cons (bs_set (i := 2) sc_read_tiers.nd rfl (by first | exact Or.inl rfl | exact Or.inr rfl) (b_fE (E := E) (passes_on fun _ _ _ h => h) N_read_number G_read_number (hr.mono (by first | decide | omega)) (ba_c (bv 1) (ba_c (b_gl T.g_FRESH_LINE) (ba_c b_str (ba_c b_int (ba_c (b_gl T.g_GREATEST_NUMBER) ba_nil rfl) rfl) rfl) rfl) rfl)))
    (bss_cons (bs_set (i := 3) sc_read_tiers.nd rfl (by first | exact Or.inl rfl | exact Or.inr rfl) (b_fE (E := E) (passes_on fun _ _ _ h => h) N_read_number G_read_number (hr.mono (by first | decide | omega)) (ba_c (bv 1) (ba_c (b_gl T.g_POURED_LINE) (ba_c b_str (ba_c b_int (ba_c (b_gl T.g_GREATEST_STAMP) ba_nil rfl) rfl) rfl) rfl) rfl)))
    (bss_cons (bs_set (i := 4) sc_read_tiers.nd rfl (by first | exact Or.inl rfl | exact Or.inr rfl) (b_fE (E := E) (passes_on fun _ _ _ h => h) N_read_all_tiers G_read_all_tiers (hr.mono (by first | decide | omega)) (ba_c (bv 1) (ba_c (bv 2) ba_nil rfl) rfl)))
    (bss_cons (bs_if (bt_cmp (o_neD (room100 hr)) (bv 0) (b_f N_text_of_rows G_text_of_rows (hr.mono (by first | decide | omega)) (ba_c (b_slice s_any (bv 1) bo_none (bo_some (b_gl T.g_LAST_LINE))) ba_nil rfl)) (nomark _))
      (bss_one (bs_raiseI throws_of rfl ⟨Z.m_BadTiers, Z.xi_BadTiers⟩ GI_BadTiers (hr.mono (by first | decide | omega)) bI_BadTiers (ba_c (b_op o_add (b_gl T.g_LAST_LINE) b_int) ba_nil rfl)))
      bss_nil)
    (bss_one (bs_ret (b_tup (ba_c (bv 2) (ba_c (bv 3) (ba_c (bv 4) ba_nil rfl) rfl) rfl))))))))), ?_⟩
    kas_types
    lcg_off
    refine rowsOf_use x (by omega) (fun p1 H1 hp1 s1 h1 => ?_)
    rw [hzs] at h1
    lcg_off
    refine rnum_use zs 0 9999999 rfl rfl h1 hx0 (by decide +kernel) (by decide) (by decide +kernel) (fun n2 H2 hn2 s2 => ?_) (fun hn2 dx H2 s2 n x => ?_)
    case refine_2 =>
      exact qe 1 (by unfold tiersM; rw [hzs, hn2]) dx H2 (s1.trans s2) (s1.free n) x
    obtain ⟨f1, f2⟩ := rn_range hn2
    obtain ⟨f', rfl⟩ : ∃ k : Nat, n2 = (k : Nat) := ⟨n2.toNat, by omega⟩
    lcg_off
    refine rnum_use zs 1 999999999 rfl rfl (s2 _ _ h1) (Nat.le_trans (hx1 0) (by decide)) (by decide +kernel) (by decide) (by decide +kernel) (fun n3 H3 hn3 s3 => ?_) (fun hn3 dx H3 s3 n x => ?_)
    case refine_2 =>
      exact qe 2 (by unfold tiersM; rw [hzs, hn2]; dsimp only; rw [hn3]) dx H3 ((s1.trans s2).trans s3) ((s1.trans s2).free n) x
    lcg_off
    have hm : tiersM x = match raM zs f' with
      | .inl l => .inl l
      | .inr told => if x = rowsS (zs.take 5) then .inr (((f' : Nat) : Int), n3, told) else .inl 6 := by
      unfold tiersM
      rw [hzs, hn2]; dsimp only
      rw [hn3]; dsimp only
      rw [Int.toNat_natCast]
    refine rall_use zs f' rfl (s3 _ _ (s2 _ _ h1)) (fun j => hx1 (j + 1)) (by omega) (by omega) (fun told v H4 htl hg s4 hv => ?_) (fun told htl hg hn dx H4 s4 n x => ?_)
    case refine_2 =>
      exact qe _ (by rw [hm, ra_bad htl hg hn]) dx H4 (((s1.trans s2).trans s3).trans s4) (((s1.trans s2).trans s3).free n) x
    rw [ra_good htl hg] at hm
    dsimp only at hm
    have h5l := good_there htl hg
    lcg_off
    refine rd_slL (SqL.of (s4 _ _ (s3 _ _ (s2 _ _ h1)))) (fun p5 H5 hp5 s5 h5 => ?_)
    rw [show cutV (zs.map V.str) none (some 5) = (zs.take 5).map V.str from by rw [show (5 : Int) = ((5 : Nat) : Int) from rfl, cutV_to _ (by rw [List.length_map]; exact h5l), List.map_take]] at h5
    lcg_off
    refine rows_use (zs.take 5) h5 (by omega) (by omega) (fun H6 s6 => ?_)
    lcg_off
    refine ite_ndec (fun h => ?_) (fun h => ?_)
    · lcg_off
      exact rd_raiseI (fun dx H' s n x => qe 6 (by rw [hm]; exact if_neg h) dx H' ((((((s1.trans s2).trans s3).trans s4).trans s5).trans s6).trans s) ((((((s1.trans s2).trans s3).trans s4).trans s5).trans s6).free n) x)
    · lcg_off
      rename_i p7 H7 s7 h7
      exact q _ _ _ (by rw [hm]; exact if_pos h) _ _ (by lcg_sub) (Rep.mkT h7 (Reps.cons' Rep.int' (Reps.cons' Rep.int' (Reps.cons' (((hv.same s5).same s6).same s7) Reps.nil'))))

end
end T53


set_option Elab.async false
set_option linter.all false
set_option maxRecDepth 100000
set_option maxHeartbeats 4000000
namespace T53
open PySem L2
local macro_rules | `(tactic| lcg_src) => `(tactic| first | with_reducible assumption | ((with_reducible refine' Same.get ?s ?e); (case s => with_reducible assumption); (case e => lcg_src)))
local macro_rules | `(tactic| lcg_sub) => `(tactic| first | with_reducible assumption | with_reducible exact Same.refl _ | ((with_reducible refine' Same.tr ?s ?e); (case s => with_reducible assumption); (case e => lcg_sub)))
local macro_rules | `(tactic| keq_rows) => `(tactic| first | with_reducible assumption | with_reducible exact Rep.int' | with_reducible exact Rep.str' | with_reducible exact Rep.bl' | with_reducible exact Rep.non' | ((with_reducible refine' Rep.same ?s ?e); (case s => with_reducible assumption); (case e => keq_rows)) | ((with_reducible refine' Rep.mkT ?c ?_); (case c => lcg_src); keq_hits) | ((with_reducible refine' Rep.mkL ?c ?_); (case c => lcg_src); keq_hits) | ((with_reducible refine' Rep.mkD ?c); (case c => lcg_src)))
local macro_rules | `(tactic| keq_hits) => `(tactic| first | with_reducible assumption | with_reducible exact Reps.nil' | ((with_reducible refine' Reps.cons' ?c ?_); (case c => keq_rows); keq_hits) | ((with_reducible refine' Reps.same ?s ?e); (case s => with_reducible assumption); (case e => keq_hits)))
local macro_rules | `(tactic| tlg_ne) => `(tactic| first | with_reducible assumption | ((with_reducible refine' SqL.of ?c); (case c => lcg_src)) | ((with_reducible refine' SqT.of ?c); (case c => lcg_src)) | ((with_reducible refine' SqL.same ?s ?e); (case s => with_reducible assumption); (case e => tlg_ne)))
local macro_rules | `(tactic| kpc_turns) => `(tactic| first | decide | omega | (constructor <;> first | decide | omega))
local macro_rules | `(tactic| kas_types) => `(tactic| simp only [cxK, cxK', compK, triedK, heldXK, start_cc, start_cn, start_nn])
local macro_rules | `(tactic| kpt_turns) => `(tactic| first
  | refine rd_go ?_
  | ((with_reducible refine' rd_mod ?c ?_); (case c => kpc_turns))
  | ((with_reducible refine' rd_fdiv ?c ?_); (case c => kpc_turns))
  | ((with_reducible refine' rd_mulI ?c ?_); (case c => first | exact .inl (by kpc_turns) | exact .inr (by kpc_turns)))
  | ((with_reducible refine' rd_mkT ?c ?_); (case c => (simp only [List.length_cons, List.length_nil]; decide)); intro _ _ _ _)
  | ((with_reducible refine' rd_mkL ?c ?_); (case c => (simp only [List.length_cons, List.length_nil]; decide)); intro _ _ _ _ _)
  | ((with_reducible refine' rd_ixT ?c ?d ?_); (case c => tlg_ne); (case d => exact rfl))
  | ((with_reducible refine' rd_ixL ?c ?d ?_); (case c => tlg_ne); (case d => exact rfl))
  | ((with_reducible refine' rd_isT ?c ?_); (case c => lcg_src))
  | ((with_reducible refine' rd_isL ?c ?_); (case c => lcg_src))
  | ((with_reducible refine' rd_isD ?c ?_); (case c => lcg_src))
  | ((with_reducible refine' rd_lenT ?c ?_); (case c => tlg_ne))
  | ((with_reducible refine' rd_lenL ?c ?_); (case c => tlg_ne))
  | ((with_reducible refine' rd_lenS ?c ?_); (case c => first | assumption | (show _ ≤ 16777216; decide) | omega))
  | ((with_reducible refine' rd_slT ?c ?d ?_); (case c => tlg_ne); (case d => simp [HT.sIx]; done); intro _ _ _ h; (simp [cutV, HT.sIx] at h))
  | ((with_reducible refine' rd_bmL ?c ?_); (case c => lcg_src))
  | ((with_reducible refine' rd_shr ?c ?_); (case c => omega))
  | ((with_reducible refine' rd_dnew ?_); intro _ _ _ _ _)
  | ((with_reducible refine' rd_pow ?c ?_); (case c => kpc_turns))
  | ((with_reducible refine' rd_exL ?c ?_); (case c => tlg_ne))
  | ((with_reducible refine' rd_exT ?c ?_); (case c => tlg_ne))
  | ((with_reducible refine' rd_exr1 ?c ?_); (case c => kpc_turns))
  | ((with_reducible refine' rd_exr2 ?c ?_); (case c => refine ⟨?_, ?_, ?_, ?_⟩ <;> first | decide | omega))
  | ((with_reducible refine' rd_gTup ?c ?d ?_); (case c => tlg_ne); (case d => exact rfl))
  | ((with_reducible refine' rd_listL ?c ?_); (case c => tlg_ne); intro _ _ _ _ _)
  | ((with_reducible refine' rd_listT ?c ?_); (case c => tlg_ne); intro _ _ _ _ _)
  | ((with_reducible refine' rd_addL ?c ?d ?e ?_); (case c => lcg_src); (case d => lcg_src); (case e => first | (simp only [List.length_cons, List.length_nil]; decide) | (simp only [List.length_cons, List.length_nil, List.length_append, sizeLine_eq]; omega)); intro _ _ _ _ h; (try simp only [List.cons_append, List.nil_append] at h))
  | ((with_reducible refine' rd_addT ?c ?d ?f ?e ?_); (case c => lcg_src); (case d => lcg_src); (case f => (intro h; cases h)); (case e => first | (simp only [List.length_cons, List.length_nil]; decide) | (simp only [List.length_cons, List.length_nil, List.length_append, sizeLine_eq]; omega)); intro _ _ _ h; (try simp only [List.cons_append, List.nil_append] at h)))
local macro_rules | `(tactic| lcg_off) => `(tactic| repeat kpt_turns)
local macro_rules | `(tactic| kaf_pre) => `(tactic| ((with_reducible refine' rd_menu ?c ?a ?b ?_); (case c => tlg_ne); (case a => first | exact Int.emod_nonneg _ (by decide) | omega); (case b => first | exact Int.emod_lt_of_pos _ (by decide) | (simp only [List.length_cons, List.length_nil]; omega))))
local macro_rules | `(tactic| kaf_suf) => `(tactic| ((with_reducible refine' rd_pick ?c ?a ?b ?_); (case c => tlg_ne); (case a => first | exact Int.emod_nonneg _ (by decide) | omega); (case b => first | exact Int.emod_lt_of_pos _ (by decide) | (simp only [List.length_cons, List.length_nil]; omega))))
section
variable {P : Program} {w : World} {K : PySem.W.Frag} {mg : Str → Option Value} {base : Heap}
def tiersD (x : Str) : D := match tiersM x with | .inl l => .int ((l : Nat) : Int) | .inr (f, d, told) => tierJ f d told
theorem tiersD_l {x : Str} {l : Nat} (h : tiersM x = .inl l) : tiersD x = .int ((l : Nat) : Int) := by unfold tiersD; rw [h]
theorem tiersD_r {x : Str} {f d : Int} {told : List (List Int)} (h : tiersM x = .inr (f, d, told)) : tiersD x = tierJ f d told := by unfold tiersD; rw [h]
theorem rt_use {c : Cs} {H : Hp} {Q : VK} {E : XK} (x : Str) (h : okX x) (q : ∀ f d told, tiersM x = .inr (f, d, told) → ∀ v H', Same H H' → Rep H' (tierJ f d told) v → Q v H')
    (qe : ∀ l, tiersM x = .inl l → ∀ dx H', Same H H' → H dx = none → H' dx = some (.xd [("line", .int ((l : Nat) : Int))]) → E (.ref c.BadTiers) (some dx) H') : spRt c [.str x] H Q E := ⟨x, rfl, h, q, qe⟩
def spField : Sp := fun vs H Q _ => ∃ (x : Str) (l : Nat), vs = [.str x] ∧ okX x ∧ tiersM x = .inl l ∧ ∀ H', Same H H' → Q (.int ((l : Nat) : Int)) H'
theorem sc__law_field : FnScope ["_law_text_here", "e"] ["_law_text_here"] (defScope s__law_field) := ⟨rfl, rfl, rfl, by decide +kernel, rfl, by decide +kernel, by decide +kernel⟩
theorem ok__law_field (T : Txt K mg) {c : Cs} (Z : Cl K mg c) {f : Addr} {fd : FuncData} (N : Fn K mg "_law_field" s__law_field ["_law_text_here"] f fd) : FnOk P w K mg base CX0 (8) f fd ["_law_text_here"] (spField) := by
  obtain ⟨_, _, N_read_tiers⟩ := T.f_read_tiers
  have G_read_tiers := ok_read_tiers (P := P) (w := w) (base := base) T Z N_read_tiers 
  refine N.fu.okB sc__law_field (fun vs H Q E h => ?_) (fun cdv A outer s H vs Q E hr h => ?_)
  · obtain ⟨x, l, rfl, _⟩ := h
    rfl
  · obtain ⟨x, l, rfl, hx, hl, q⟩ := h
    refine ⟨_, (bss_cons (bs_try rfl rfl rfl (fun pins EX => (bss_one (bs_expr (b_fS (tried_passes rfl) N_read_tiers G_read_tiers (hr.mono (by first | decide | omega)) (ba_c (bv 0) ba_nil rfl))))) (bh_as rfl rfl sc__law_field.nd (i := 1) rfl rfl Z.m_BadTiers Z.tb_BadTiers (fun C ea oe dc hc hdc hn => (bss_one (bs_ret (be_xfldK (K := K) rfl (bv 1) (List.mem_cons_self) hc hdc hn)))) bh_nil))
    (bss_one (bs_ret b_str))), ?_⟩
    kas_types
    lcg_off
    refine rt_use x hx (fun f d told ht v H1 s1 hr => by rw [hl] at ht; cases ht) (fun l' hl' dx H1 s1 n1 h1 => ?_)
    obtain rfl : l = l' := by rw [hl] at hl'; exact Sum.inl.inj hl'
    refine ⟨_, rfl, fun ea hea => ⟨true, Z.hk, ?_⟩⟩
    rw [if_pos rfl]
    simp only [List.set]
    lcg_off
    refine ⟨rfl, ⟨Z.hg1, Z.hg2, Z.hb, Z.hd, Z.hf_BadTiers⟩, dx, _, _, rfl, h1, rfl, ?_⟩
    exact q _ s1
theorem field_use {H : Hp} {Q : VK} {E : XK} (x : Str) (l : Nat) (h : okX x) (hl : tiersM x = .inl l) (q : ∀ H', Same H H' → Q (.int ((l : Nat) : Int)) H') : spField [.str x] H Q E := ⟨x, l, rfl, h, hl, q⟩
def spTold : Sp := fun vs H Q _ => ∃ x : Str, vs = [.str x] ∧ okX x ∧ ∀ v H', Same H H' → Rep H' (tiersD x) v → Q v H'
theorem sc__law_told : FnScope ["_law_text_here", "e", "_law_some"] ["_law_text_here"] (defScope s__law_told) := ⟨rfl, rfl, rfl, by decide +kernel, rfl, by decide +kernel, by decide +kernel⟩
theorem ok__law_told (T : Txt K mg) {c : Cs} (Z : Cl K mg c) {f : Addr} {fd : FuncData} (N : Fn K mg "_law_told" s__law_told ["_law_text_here"] f fd) : FnOk P w K mg base CX0 (9) f fd ["_law_text_here"] (spTold) := by
  obtain ⟨_, _, N__law_field⟩ := T.f__law_field
  have G__law_field := ok__law_field (P := P) (w := w) (base := base) T Z N__law_field 
  obtain ⟨_, _, N_read_tiers⟩ := T.f_read_tiers
  have G_read_tiers := ok_read_tiers (P := P) (w := w) (base := base) T Z N_read_tiers 
  refine N.fu.okB sc__law_told (fun vs H Q E h => ?_) (fun cdv A outer s H vs Q E hr h => ?_)
  · obtain ⟨x, rfl, _⟩ := h
    rfl
  · obtain ⟨x, rfl, hx, q⟩ := h
    refine ⟨_, (bss_cons (bs_try rfl rfl rfl (fun pins EX => (bss_one (bs_ret (b_fS (tried_passes rfl) N_read_tiers G_read_tiers (hr.mono (by first | decide | omega)) (ba_c (bv 0) ba_nil rfl))))) (bh_as rfl rfl sc__law_told.nd (i := 1) rfl rfl Z.m_TierError Z.tb_TierError (fun C ea oe dc hc hdc hn => (bss_cons (bs_set (i := 2) sc__law_told.nd rfl (by first | exact Or.inl rfl | exact Or.inr rfl) (b_b (c_isH hc) T.b_isinstance (by kernel_rfl) (ba_c (bv 1) (ba_c (b_tup (ba_c (b_gl (v := .ref c.BadDeed) ⟨_, Z.m_BadDeed, rfl⟩) (ba_c (b_gl (v := .ref c.BadFile) ⟨_, Z.m_BadFile, rfl⟩) (ba_c (b_gl (v := .ref c.BadJournal) ⟨_, Z.m_BadJournal, rfl⟩) (ba_c (b_gl (v := .ref c.BadKey) ⟨_, Z.m_BadKey, rfl⟩) (ba_c (b_gl (v := .ref c.BadRow) ⟨_, Z.m_BadRow, rfl⟩) (ba_c (b_gl (v := .ref c.BadRun) ⟨_, Z.m_BadRun, rfl⟩) (ba_c (b_gl (v := .ref c.BadSieve) ⟨_, Z.m_BadSieve, rfl⟩) (ba_c (b_gl (v := .ref c.BadStamp) ⟨_, Z.m_BadStamp, rfl⟩) ba_nil rfl) rfl) rfl) rfl) rfl) rfl) rfl) rfl)) ba_nil rfl) rfl)))
    (bss_one (bs_if (bt_w (bw_or (bt_val (bv 2) (fun _ => rfl)) (bw_or (bt_val (b_b (c_isH hc) T.b_isinstance (by kernel_rfl) (ba_c (bv 1) (ba_c (b_tup (ba_c (b_gl (v := .ref c.BadValue) ⟨_, Z.m_BadValue, rfl⟩) (ba_c (b_gl (v := .ref c.NoFile) ⟨_, Z.m_NoFile, rfl⟩) (ba_c (b_gl (v := .ref c.NoSnapshot) ⟨_, Z.m_NoSnapshot, rfl⟩) (ba_c (b_gl (v := .ref c.Stopped) ⟨_, Z.m_Stopped, rfl⟩) ba_nil rfl) rfl) rfl) rfl)) ba_nil rfl) rfl)) (fun _ => rfl)) (bw_or1 (bt_not (bt_val (b_b (c_isH hc) T.b_isinstance (by kernel_rfl) (ba_c (bv 1) (ba_c (b_ty (T := "ValueError") T.b_ValueError (by kernel_rfl)) ba_nil rfl) rfl)) (fun _ => rfl)))))))
      (bss_one (bs_ret b_str))
      bss_nil)))) bh_nil))
    (bss_one (bs_ret (b_f N__law_field G__law_field (hr.mono (by first | decide | omega)) (ba_c (bv 0) ba_nil rfl))))), ?_⟩
    kas_types
    have hy : ClsY K c.BadTiers := ⟨Z.hg1, Z.hg2, Z.hb, Z.ha, Z.hn, Z.ht, Z.hm_BadTiers, Z.hk⟩
    lcg_off
    refine rt_use x hx (fun f d told ht v H1 s1 hr => q v H1 s1 (by rw [tiersD_r ht]; exact hr)) (fun l hl dx H1 s1 n1 h1 => ?_)
    refine ⟨_, rfl, fun ea hea => ⟨true, Z.tt, ?_⟩⟩
    rw [if_pos rfl]
    simp only [List.set]
    lcg_off
    refine' rd_isXT (b := false) hy ?ht ?hc ?hk ?_
    (case ht => lcg_src)
    (case hc => rfl)
    (case hk => exact Z.o1)
    lcg_off
    refine' rd_isXT (b := false) hy ?ht ?hc ?hk ?_
    (case ht => lcg_src)
    (case hc => rfl)
    (case hk => exact Z.o2)
    lcg_off
    refine rd_isX1 hy rfl Z.o4 ?_
    lcg_off
    simp only [Ends.gone, List.set]
    lcg_off
    refine field_use x l hx hl (fun H4 s4 => ?_)
    exact q _ _ (by lcg_sub) (by rw [tiersD_l hl]; exact Rep.int')
theorem told_use {H : Hp} {Q : VK} {E : XK} (x : Str) (h : okX x) (q : ∀ v H', Same H H' → Rep H' (tiersD x) v → Q v H') : spTold [.str x] H Q E := ⟨x, rfl, h, q⟩

end
end T53


set_option Elab.async false
set_option linter.all false
set_option maxRecDepth 100000
set_option maxHeartbeats 4000000
namespace T53
open PySem L2
local macro_rules | `(tactic| lcg_src) => `(tactic| first | with_reducible assumption | ((with_reducible refine' Same.get ?s ?e); (case s => with_reducible assumption); (case e => lcg_src)))
local macro_rules | `(tactic| lcg_sub) => `(tactic| first | with_reducible assumption | with_reducible exact Same.refl _ | ((with_reducible refine' Same.tr ?s ?e); (case s => with_reducible assumption); (case e => lcg_sub)))
local macro_rules | `(tactic| keq_rows) => `(tactic| first | with_reducible assumption | with_reducible exact Rep.int' | with_reducible exact Rep.str' | with_reducible exact Rep.bl' | with_reducible exact Rep.non' | ((with_reducible refine' Rep.same ?s ?e); (case s => with_reducible assumption); (case e => keq_rows)) | ((with_reducible refine' Rep.mkT ?c ?_); (case c => lcg_src); keq_hits) | ((with_reducible refine' Rep.mkL ?c ?_); (case c => lcg_src); keq_hits) | ((with_reducible refine' Rep.mkD ?c); (case c => lcg_src)))
local macro_rules | `(tactic| keq_hits) => `(tactic| first | with_reducible assumption | with_reducible exact Reps.nil' | ((with_reducible refine' Reps.cons' ?c ?_); (case c => keq_rows); keq_hits) | ((with_reducible refine' Reps.same ?s ?e); (case s => with_reducible assumption); (case e => keq_hits)))
local macro_rules | `(tactic| tlg_ne) => `(tactic| first | with_reducible assumption | ((with_reducible refine' SqL.of ?c); (case c => lcg_src)) | ((with_reducible refine' SqT.of ?c); (case c => lcg_src)) | ((with_reducible refine' SqL.same ?s ?e); (case s => with_reducible assumption); (case e => tlg_ne)))
local macro_rules | `(tactic| kpc_turns) => `(tactic| first | decide | omega | (constructor <;> first | decide | omega))
local macro_rules | `(tactic| kas_types) => `(tactic| simp only [cxK, cxK', compK, triedK, heldXK, start_cc, start_cn, start_nn])
local macro_rules | `(tactic| kpt_turns) => `(tactic| first
  | refine rd_go ?_
  | ((with_reducible refine' rd_mod ?c ?_); (case c => kpc_turns))
  | ((with_reducible refine' rd_fdiv ?c ?_); (case c => kpc_turns))
  | ((with_reducible refine' rd_mulI ?c ?_); (case c => first | exact .inl (by kpc_turns) | exact .inr (by kpc_turns)))
  | ((with_reducible refine' rd_mkT ?c ?_); (case c => (simp only [List.length_cons, List.length_nil]; decide)); intro _ _ _ _)
  | ((with_reducible refine' rd_mkL ?c ?_); (case c => (simp only [List.length_cons, List.length_nil]; decide)); intro _ _ _ _ _)
  | ((with_reducible refine' rd_ixT ?c ?d ?_); (case c => tlg_ne); (case d => exact rfl))
  | ((with_reducible refine' rd_ixL ?c ?d ?_); (case c => tlg_ne); (case d => exact rfl))
  | ((with_reducible refine' rd_isT ?c ?_); (case c => lcg_src))
  | ((with_reducible refine' rd_isL ?c ?_); (case c => lcg_src))
  | ((with_reducible refine' rd_isD ?c ?_); (case c => lcg_src))
  | ((with_reducible refine' rd_lenT ?c ?_); (case c => tlg_ne))
  | ((with_reducible refine' rd_lenL ?c ?_); (case c => tlg_ne))
  | ((with_reducible refine' rd_lenS ?c ?_); (case c => first | assumption | (show _ ≤ 16777216; decide) | omega))
  | ((with_reducible refine' rd_slT ?c ?d ?_); (case c => tlg_ne); (case d => simp [HT.sIx]; done); intro _ _ _ h; (simp [cutV, HT.sIx] at h))
  | ((with_reducible refine' rd_bmL ?c ?_); (case c => lcg_src))
  | ((with_reducible refine' rd_shr ?c ?_); (case c => omega))
  | ((with_reducible refine' rd_dnew ?_); intro _ _ _ _ _)
  | ((with_reducible refine' rd_pow ?c ?_); (case c => kpc_turns))
  | ((with_reducible refine' rd_exL ?c ?_); (case c => tlg_ne))
  | ((with_reducible refine' rd_exT ?c ?_); (case c => tlg_ne))
  | ((with_reducible refine' rd_exr1 ?c ?_); (case c => kpc_turns))
  | ((with_reducible refine' rd_exr2 ?c ?_); (case c => refine ⟨?_, ?_, ?_, ?_⟩ <;> first | decide | omega))
  | ((with_reducible refine' rd_gTup ?c ?d ?_); (case c => tlg_ne); (case d => exact rfl))
  | ((with_reducible refine' rd_listL ?c ?_); (case c => tlg_ne); intro _ _ _ _ _)
  | ((with_reducible refine' rd_listT ?c ?_); (case c => tlg_ne); intro _ _ _ _ _)
  | ((with_reducible refine' rd_addL ?c ?d ?e ?_); (case c => lcg_src); (case d => lcg_src); (case e => first | (simp only [List.length_cons, List.length_nil]; decide) | (simp only [List.length_cons, List.length_nil, List.length_append, sizeLine_eq]; omega)); intro _ _ _ _ h; (try simp only [List.cons_append, List.nil_append] at h))
  | ((with_reducible refine' rd_addT ?c ?d ?f ?e ?_); (case c => lcg_src); (case d => lcg_src); (case f => (intro h; cases h)); (case e => first | (simp only [List.length_cons, List.length_nil]; decide) | (simp only [List.length_cons, List.length_nil, List.length_append, sizeLine_eq]; omega)); intro _ _ _ h; (try simp only [List.cons_append, List.nil_append] at h)))
local macro_rules | `(tactic| lcg_off) => `(tactic| repeat kpt_turns)
local macro_rules | `(tactic| kaf_pre) => `(tactic| ((with_reducible refine' rd_menu ?c ?a ?b ?_); (case c => tlg_ne); (case a => first | exact Int.emod_nonneg _ (by decide) | omega); (case b => first | exact Int.emod_lt_of_pos _ (by decide) | (simp only [List.length_cons, List.length_nil]; omega))))
local macro_rules | `(tactic| kaf_suf) => `(tactic| ((with_reducible refine' rd_pick ?c ?a ?b ?_); (case c => tlg_ne); (case a => first | exact Int.emod_nonneg _ (by decide) | omega); (case b => first | exact Int.emod_lt_of_pos _ (by decide) | (simp only [List.length_cons, List.length_nil]; omega))))
section
variable {P : Program} {w : World} {K : PySem.W.Frag} {mg : Str → Option Value} {base : Heap}
/-! ### tiers, and their rows -/
def rowD (ns : List Nat) : D := .tup (ns.map fun n => D.int (n : Nat))
def tierD (f d : Nat) (r0 r1 r2 : List Nat) : D := .tup [.int (f : Nat), .int (d : Nat), .tup [rowD r0, rowD r1, rowD r2]]
def okTiers (f d : Nat) (r0 r1 r2 : List Nat) : Prop := 1 ≤ f ∧ f ≤ 9999999 ∧ d ≤ 999999999 ∧ r0.length ≤ 20 ∧ r1.length ≤ 1 ∧ r2.length ≤ 1 ∧ (r0 ++ r1 ++ r2).Nodup ∧ ∀ n ∈ r0 ++ r1 ++ r2, 1 ≤ n ∧ n < f
def intsV (ns : List Nat) : List V := ns.map fun n => V.int (n : Nat)
theorem intsV_len (ns : List Nat) : (intsV ns).length = ns.length := List.length_map _
theorem reps_ints {H : Hp} : ∀ {ns : List Nat} {vs : List V}, Reps H (ns.map fun n => D.int (n : Nat)) vs → vs = intsV ns
  | [], vs, h => h.nilE
  | n :: ns, vs, h => by
    obtain ⟨x, r, rfl, h1, h2⟩ := Reps.consE h
    simp only [Rep] at h1
    rw [h1, reps_ints h2]
    rfl
theorem ints_reps {H : Hp} : ∀ ns : List Nat, Reps H (ns.map fun n => D.int (n : Nat)) (intsV ns)
  | [] => Reps.nil'
  | n :: ns => Reps.cons' Rep.int' (ints_reps ns)
theorem rowE {H : Hp} {ns : List Nat} {v : V} (h : Rep H (rowD ns) v) : ∃ p, v = .ref p ∧ H p = some (.tup (intsV ns)) := by
  obtain ⟨p, vs, rfl, hp, hv⟩ := Rep.tupE h
  exact ⟨p, rfl, by rw [hp, reps_ints hv]⟩
theorem tierE {H : Hp} {f d : Nat} {r0 r1 r2 : List Nat} {v : V} (h : Rep H (tierD f d r0 r1 r2) v) : ∃ p q a0 a1 a2, v = .ref p ∧ H p = some (.tup [.int (f : Nat), .int (d : Nat), .ref q]) ∧ H q = some (.tup [.ref a0, .ref a1, .ref a2]) ∧ H a0 = some (.tup (intsV r0)) ∧ H a1 = some (.tup (intsV r1)) ∧ H a2 = some (.tup (intsV r2)) := by
  obtain ⟨p, vs, rfl, hp, hv⟩ := Rep.tupE h
  obtain ⟨x1, s1, rfl, e1, hv1⟩ := Reps.consE hv
  obtain ⟨x2, s2, rfl, e2, hv2⟩ := Reps.consE hv1
  obtain ⟨x3, s3, rfl, e3, hv3⟩ := Reps.consE hv2
  obtain rfl := hv3.nilE
  simp only [Rep] at e1 e2
  subst e1 e2
  obtain ⟨q, ws, rfl, hq, hw⟩ := Rep.tupE e3
  obtain ⟨y1, t1, rfl, g1, hw1⟩ := Reps.consE hw
  obtain ⟨y2, t2, rfl, g2, hw2⟩ := Reps.consE hw1
  obtain ⟨y3, t3, rfl, g3, hw3⟩ := Reps.consE hw2
  obtain rfl := hw3.nilE
  obtain ⟨a0, rfl, h0⟩ := rowE g1
  obtain ⟨a1, rfl, h1⟩ := rowE g2
  obtain ⟨a2, rfl, h2⟩ := rowE g3
  exact ⟨p, q, a0, a1, a2, rfl, hp, hq, h0, h1, h2⟩
theorem tierI {H : Hp} {f d : Nat} {r0 r1 r2 : List Nat} {p q a0 a1 a2 : Addr} (h1 : H p = some (.tup [.int (f : Nat), .int (d : Nat), .ref q])) (h2 : H q = some (.tup [.ref a0, .ref a1, .ref a2])) (h3 : H a0 = some (.tup (intsV r0))) (h4 : H a1 = some (.tup (intsV r1))) (h5 : H a2 = some (.tup (intsV r2))) : Rep H (tierD f d r0 r1 r2) (.ref p) :=
  Rep.mkT h1 (Reps.cons' Rep.int' (Reps.cons' Rep.int' (Reps.cons' (Rep.mkT h2 (Reps.cons' (Rep.mkT h3 (ints_reps _)) (Reps.cons' (Rep.mkT h4 (ints_reps _)) (Reps.cons' (Rep.mkT h5 (ints_reps _)) Reps.nil')))) Reps.nil')))
def tailB : List Nat → Str
  | [] => Str.ofString ""
  | n :: ns => Str.ofString " " ++ numT n ++ tailB ns
def tierB (ns : List Nat) : Str := Str.ofString "tier" ++ tailB ns
def freshB (f : Nat) : Str := Str.ofString "fresh " ++ numT f
def pouredB (d : Nat) : Str := Str.ofString "poured " ++ numT d
def tiersB (f d : Nat) (r0 r1 r2 : List Nat) : List Str := [freshB f, pouredB d, tierB r0, tierB r1, tierB r2]
theorem join_tail : ∀ (z : Str) (ns : List Nat), Txt.join (Str.ofString " ") (z :: ns.map numT) = z ++ tailB ns := by
  intro z ns
  refine (StrLaws.glued_eq_join _ _).trans ?_
  induction ns generalizing z with
  | nil => exact (app_nil' z).symm
  | cons n ns ih =>
    rw [List.map_cons]
    show z ++ Str.ofString " " ++ Str.join (Str.ofString " ") (numT n :: ns.map numT) = z ++ (Str.ofString " " ++ numT n ++ tailB ns)
    rw [ih (numT n), ap, ap]
theorem tailB_glue : ∀ (z : Str) (ns : List Nat), (z ++ tailB ns).cps.toList = glue 32 ((z :: ns.map numT).map fun z => z.cps.toList)
  | z, [] => by show (z ++ Str.ofString "").cps.toList = _; rw [app_nil']; rfl
  | z, n :: ns => by
    have ih := tailB_glue (numT n) ns
    show (z ++ (Str.ofString " " ++ numT n ++ tailB ns)).cps.toList = z.cps.toList ++ 32 :: glue 32 ((numT n :: ns.map numT).map fun z => z.cps.toList)
    rw [← ih, app_list, ap, app_list, show (Str.ofString " ").cps.toList = [32] by decide +kernel]
    rfl
theorem tier_split (ns : List Nat) : Txt.split (tierB ns) (Str.ofString " ") = Str.ofString "tier" :: ns.map numT := by
  rw [show Str.ofString " " = ⟨#[32]⟩ by decide +kernel]
  refine split_eq (by simp) (fun z hz => ?_) (tailB_glue _ _)
  rcases List.mem_cons.mp hz with rfl | h
  · decide +kernel
  · obtain ⟨n, _, rfl⟩ := List.mem_map.mp h
    exact numT_free n 32 (by decide +kernel)
theorem tailB_len : ∀ {ns : List Nat}, (∀ n ∈ ns, n ≤ 9999999) → (tailB ns).length ≤ 8 * ns.length
  | [], _ => by decide +kernel
  | n :: ns, h => by
    have h1 := numT_l7 (h n List.mem_cons_self)
    have h2 := tailB_len (ns := ns) fun x hx => h x (List.mem_cons_of_mem _ hx)
    simp only [tailB, la, len_bl, List.length_cons]
    omega
theorem len_tier : (Str.ofString "tier").length = 4 := by decide +kernel
theorem tierB_len {ns : List Nat} (h : ∀ n ∈ ns, n ≤ 9999999) : (tierB ns).length ≤ 4 + 8 * ns.length := by
  have := tailB_len h
  unfold tierB
  rw [la, len_tier]
  omega

def intsI (ns : List Nat) : List Int := ns.map fun n : Nat => (n : Int)
theorem intsV_I (ns : List Nat) : intsV ns = (intsI ns).map V.int := by unfold intsV intsI; rw [List.map_map]; rfl
theorem intsV_app (xs ys : List Nat) : intsV (xs ++ ys) = intsV xs ++ intsV ys := List.map_append

theorem numT_def (n : Nat) : Str.ofString (toString ((n : Nat) : Int)) = numT n := rfl
theorem sum_num : ∀ {ns : List Nat}, (∀ n ∈ ns, n ≤ 9999999) → (List.map (fun x => x.length) (ns.map numT)).sum ≤ 7 * ns.length
  | [], _ => Nat.zero_le _
  | n :: ns, h => by
    have h1 := numT_l7 (h n List.mem_cons_self)
    have h2 := sum_num (ns := ns) fun x hx => h x (List.mem_cons_of_mem _ hx)
    rw [List.map_cons, List.map_cons, List.sum_cons, List.length_cons]
    omega
theorem len_fresh : (Str.ofString "fresh ").length = 6 := by decide +kernel
theorem len_poured : (Str.ofString "poured ").length = 7 := by decide +kernel
theorem ok_le {f d : Nat} {r0 r1 r2 : List Nat} (h : okTiers f d r0 r1 r2) : (∀ n ∈ r0, n ≤ 9999999) ∧ (∀ n ∈ r1, n ≤ 9999999) ∧ (∀ n ∈ r2, n ≤ 9999999) := by
  obtain ⟨_, hf, _, _, _, _, _, hb⟩ := h
  refine ⟨fun n hn => ?_, fun n hn => ?_, fun n hn => ?_⟩
  · have := hb n (List.mem_append_left _ (List.mem_append_left _ hn)); omega
  · have := hb n (List.mem_append_left _ (List.mem_append_right _ hn)); omega
  · have := hb n (List.mem_append_right _ hn); omega
/-! ### the law's own figures -/
def spWhole : Sp := fun vs H Q _ => ∃ i, vs = [.int i] ∧ Q (.bl true) H
theorem sc__law_whole : FnScope ["_law_found"] ["_law_found"] (defScope s__law_whole) := ⟨rfl, rfl, rfl, by decide +kernel, rfl, by decide +kernel, by decide +kernel⟩
theorem ok__law_whole (T : Txt K mg) {f : Addr} {fd : FuncData} (N : Fn K mg "_law_whole" s__law_whole ["_law_found"] f fd) : FnOk P w K mg base CX0 (1) f fd ["_law_found"] (spWhole) := by
  refine N.fu.okB sc__law_whole (fun vs H Q E h => ?_) (fun cdv A outer s H vs Q E hr h => ?_)
  · obtain ⟨i, rfl, _⟩ := h
    rfl
  · obtain ⟨i, rfl, q⟩ := h
    refine ⟨_, (bss_one (bs_ret (b_and (b_b c_isinst T.b_isinstance (by kernel_rfl) (ba_c (bv 0) (ba_c (b_ty (T := "int") T.b_int (by kernel_rfl)) ba_nil rfl) rfl)) (b_one (b_not (b_b c_isinst T.b_isinstance (by kernel_rfl) (ba_c (bv 0) (ba_c (b_ty (T := "bool") T.b_bool (by kernel_rfl)) ba_nil rfl) rfl))))))), ?_⟩
    kas_types
    lcg_off
    exact q
theorem whole_use {H : Hp} {Q : VK} {E : XK} {i : Int} (q : Q (.bl true) H) : spWhole [.int i] H Q E := ⟨i, rfl, q⟩

/-! ### the same tiers -/
/-! ### the tiers drawn -/
theorem insL_perm {α : Type} (k : Nat) (y : α) (xs : List α) : (insL k y xs).Perm (y :: xs) := by
  unfold insL
  refine List.perm_middle.trans ?_
  rw [List.take_append_drop]
theorem insL_len {α : Type} (k : Nat) (y : α) (xs : List α) : (insL k y xs).length = xs.length + 1 := by rw [(insL_perm k y xs).length_eq, List.length_cons]
theorem intsV_ins (k n : Nat) (xs : List Nat) : insL k (V.int (n : Nat)) (intsV xs) = intsV (insL k n xs) := by
  unfold insL intsV
  rw [List.map_append, List.map_cons, List.map_take, List.map_drop]
def qa (q0 q1 q2 : Addr) : Nat → Addr
  | 0 => q0
  | 1 => q1
  | _ => q2
def allR (rs : Nat → List Nat) : List Nat := rs 0 ++ rs 1 ++ rs 2
def putR (rs : Nat → List Nat) (j : Nat) (xs : List Nat) : Nat → List Nat := fun i => if i = j then xs else rs i
theorem put_perm {rs : Nat → List Nat} {j k n : Nat} (hj : j < 3) : (allR (putR rs j (insL k n (rs j)))).Perm (n :: allR rs) := by
  match j, hj with
  | 0, _ =>
    show (insL k n (rs 0) ++ rs 1 ++ rs 2).Perm (n :: (rs 0 ++ rs 1 ++ rs 2))
    exact ((insL_perm k n (rs 0)).append_right _).append_right _
  | 1, _ =>
    show (rs 0 ++ insL k n (rs 1) ++ rs 2).Perm (n :: (rs 0 ++ rs 1 ++ rs 2))
    have h : (rs 0 ++ insL k n (rs 1)).Perm (n :: (rs 0 ++ rs 1)) := ((insL_perm k n (rs 1)).append_left _).trans List.perm_middle
    exact h.append_right _
  | 2, _ =>
    show (rs 0 ++ rs 1 ++ insL k n (rs 2)).Perm (n :: (rs 0 ++ rs 1 ++ rs 2))
    exact ((insL_perm k n (rs 2)).append_left _).trans List.perm_middle
def okR (f : Nat) (rs : Nat → List Nat) : Prop := (allR rs).Nodup ∧ (∀ n ∈ allR rs, 1 ≤ n ∧ n < f) ∧ (rs 1).length ≤ 1 ∧ (rs 2).length ≤ 1
theorem put_ok {f : Nat} {rs : Nat → List Nat} {j k n : Nat} (hj : j < 3) (h : okR f rs) (h1 : 1 ≤ n) (h2 : n < f) (h3 : n ∉ allR rs) (h4 : j = 0 ∨ rs j = []) : okR f (putR rs j (insL k n (rs j))) := by
  obtain ⟨a, b, c, d⟩ := h
  refine ⟨(put_perm hj).nodup_iff.mpr (List.nodup_cons.mpr ⟨h3, a⟩), fun m hm => ?_, ?_, ?_⟩
  · rcases List.mem_cons.mp ((put_perm hj).mem_iff.mp hm) with e | e
    · rw [e]; exact ⟨h1, h2⟩
    · exact b m e
  · show (if 1 = j then insL k n (rs j) else rs 1).length ≤ 1
    split
    · rw [insL_len]
      rcases h4 with e | e
      · omega
      · rw [e]; exact Nat.le_refl 1
    · exact c
  · show (if 2 = j then insL k n (rs j) else rs 2).length ≤ 1
    split
    · rw [insL_len]
      rcases h4 with e | e
      · omega
      · rw [e]; exact Nat.le_refl 1
    · exact d
theorem pyEq_emp (ns : List Nat) : pyEq (.lst (ns.map fun n => D.int (n : Nat))) (.lst []) = decide (ns = []) := by
  cases ns with
  | nil => simp [pyEq, pyEqs]
  | cons n ns => simp [pyEq, pyEqs]
theorem lst_dep (ns : List Nat) : (D.lst (ns.map fun n => D.int (n : Nat))).dep ≤ 100 := by
  have h : ∀ ns : List Nat, D.deps (ns.map fun n => D.int (n : Nat)) ≤ 0 := fun ns => by
    induction ns with
    | nil => simp [D.deps]
    | cons n ns ih => rw [List.map_cons]; simp only [D.deps, D.dep]; omega
  have := h ns
  simp only [D.dep]
  omega
def TInv (H : Hp) (a pr pu q0 q1 q2 : Addr) (f d i : Nat) (σ : St) (G : Hp) : Prop := ∃ (rs : Nat → List Nat) (us : List Nat) (o5 o6 o7 o8 : Option V), σ = [some (.ref a), some (.int (f : Nat)), some (.int (d : Nat)), some (.ref pr), some (.ref pu), o5, o6, o7, o8] ∧ okR f rs ∧ (rs 0).length ≤ i ∧ us.length ≤ i ∧ (∀ n ∈ allR rs, n ∈ us) ∧ Same H G ∧ G pr = some (.lst [.ref q0, .ref q1, .ref q2]) ∧ (∀ j, j < 3 → G (qa q0 q1 q2 j) = some (.lst (intsV (rs j)))) ∧ G pu = some (.lst (intsV us))
def spTiers (K : PySem.W.Frag) : Sp := fun vs H Q _ => ∃ (a : Addr) (ns : List Int), vs = [.ref a] ∧ SqL K H a (ns.map V.int) ∧ ns.length ≤ 63 ∧ ∀ f d r0 r1 r2 v H', okTiers f d r0 r1 r2 → Same H H' → Rep H' (tierD f d r0 r1 r2) v → Q v H'
theorem sc__law_tiers : FnScope ["_law_script", "_law_fresh", "_law_done_to", "_law_rows", "_law_used", "_law_k", "_law_pick", "_law_place", "_law_number_here"] ["_law_script"] (defScope s__law_tiers) := ⟨rfl, rfl, rfl, by decide +kernel, rfl, by decide +kernel, by decide +kernel⟩
theorem ok__law_tiers (T : Txt K mg) {f : Addr} {fd : FuncData} (N : Fn K mg "_law_tiers" s__law_tiers ["_law_script"] f fd) : FnOk P w K mg base CX0 (2) f fd ["_law_script"] (spTiers K) := by
  obtain ⟨_, _, N__law_mixed⟩ := T.f__law_mixed
  have G__law_mixed := ok__law_mixed (P := P) (w := w) (base := base) T N__law_mixed 
  obtain ⟨_, _, N__law_cell_at⟩ := T.f__law_cell_at
  have G__law_cell_at := ok__law_cell_at (P := P) (w := w) (base := base) T N__law_cell_at 
  refine N.fu.okB sc__law_tiers (fun vs H Q E h => ?_) (fun cdv A outer s H vs Q E hr h => ?_)
  · obtain ⟨a, ns, rfl, _⟩ := h
    rfl
  · obtain ⟨a, ns, rfl, hS, hnl, q⟩ := h
    refine ⟨_, (bss_cons (bs_set (i := 1) sc__law_tiers.nd rfl (by first | exact Or.inl rfl | exact Or.inr rfl) (b_ix ix_seq (b_lst (ba_c b_int (ba_c b_int (ba_c b_int (ba_c (b_op o_add b_int (b_op op_mod (b_op op_fdiv (b_f N__law_cell_at G__law_cell_at (hr.mono (by first | decide | omega)) (ba_c (bv 0) (ba_c b_int ba_nil rfl) rfl)) b_int) b_int)) ba_nil rfl) rfl) rfl) rfl)) (b_op op_mod (b_f N__law_cell_at G__law_cell_at (hr.mono (by first | decide | omega)) (ba_c (bv 0) (ba_c b_int ba_nil rfl) rfl)) b_int) (fun _ _ => rfl)))
    (bss_cons (bs_set (i := 2) sc__law_tiers.nd rfl (by first | exact Or.inl rfl | exact Or.inr rfl) (b_ix ix_seq (b_lst (ba_c b_int (ba_c (b_op op_sub (b_op op_pow b_int b_int) b_int) (ba_c b_int (ba_c (b_op op_mod (b_op op_fdiv (b_f N__law_cell_at G__law_cell_at (hr.mono (by first | decide | omega)) (ba_c (bv 0) (ba_c b_int ba_nil rfl) rfl)) b_int) (b_op op_pow b_int b_int)) ba_nil rfl) rfl) rfl) rfl)) (b_op op_mod (b_f N__law_cell_at G__law_cell_at (hr.mono (by first | decide | omega)) (ba_c (bv 0) (ba_c b_int ba_nil rfl) rfl)) b_int) (fun _ _ => rfl)))
    (bss_cons (bs_set (i := 3) sc__law_tiers.nd rfl (by first | exact Or.inl rfl | exact Or.inr rfl) (b_lst (ba_c (b_lst ba_nil) (ba_c (b_lst ba_nil) (ba_c (b_lst ba_nil) ba_nil rfl) rfl) rfl)))
    (bss_cons (bs_set (i := 4) sc__law_tiers.nd rfl (by first | exact Or.inl rfl | exact Or.inr rfl) (b_lst ba_nil))
    (bss_cons (bs_for PassesOwn.never rfl (bi_r2 T.b_range (ba_c b_int (ba_c (b_b (c_min rfl) T.b_min (by kernel_rfl) (ba_c (b_b c_len T.b_len (by kernel_rfl) (ba_c (bv 0) ba_nil rfl)) (ba_c b_int ba_nil rfl) rfl)) ba_nil rfl) rfl)) (bg_name (i := 5) sc__law_tiers.nd rfl (by first | exact Or.inl rfl | exact Or.inr rfl))
      (bss_cons (bs_set (i := 6) sc__law_tiers.nd rfl (by first | exact Or.inl rfl | exact Or.inr rfl) (b_f N__law_mixed G__law_mixed (hr.mono (by first | decide | omega)) (ba_c (b_ix ix_seq (bv 0) (bv 5) (fun _ _ => rfl)) (ba_c (bv 5) ba_nil rfl) rfl)))
    (bss_cons (bs_set (i := 7) sc__law_tiers.nd rfl (by first | exact Or.inl rfl | exact Or.inr rfl) (b_ix ix_seq (b_lst (ba_c b_int (ba_c b_int (ba_c b_int (ba_c b_int (ba_c b_int (ba_c b_int ba_nil rfl) rfl) rfl) rfl) rfl) rfl)) (b_op op_mod (bv 6) b_int) (fun _ _ => rfl)))
    (bss_cons (bs_set (i := 8) sc__law_tiers.nd rfl (by first | exact Or.inl rfl | exact Or.inr rfl) (b_op o_add b_int (b_op op_mod (b_ix ix_seq (b_lst (ba_c (b_op op_mod (b_op op_fdiv (bv 6) b_int) b_int) (ba_c (b_op op_sub (b_op op_sub (bv 1) b_int) (b_op op_mod (b_op op_fdiv (bv 6) b_int) b_int)) (ba_c (b_op op_fdiv (bv 6) b_int) ba_nil rfl) rfl) rfl)) (b_op op_mod (b_op op_fdiv (bv 6) b_int) b_int) (fun _ _ => rfl)) (b_b (c_max rfl) T.b_max (by kernel_rfl) (ba_c (b_op op_sub (bv 1) b_int) (ba_c b_int ba_nil rfl) rfl)))))
    (bss_one (bs_if (bt_w (bw_and (bt_cmp o_lt (bv 8) (bv 1) (nomark _)) (bw_and (bt_cmp op_notIn_seq (bv 8) (bv 4) rfl) (bw_and1 (bt_w (bw_or (bt_cmp (o_eqD (room100 hr)) (bv 7) b_int (nomark _)) (bw_or1 (bt_cmp (o_eqD (room100 hr)) (b_ix ix_seq (bv 3) (bv 7) (fun _ _ => rfl)) (b_lst ba_nil) (nomark _)))))))))
      (bss_cons (bs_expr (bm_insert (b_ix ix_seq (bv 3) (bv 7) (fun _ _ => rfl)) (ba_c (b_op op_mod (b_op op_fdiv (bv 6) b_int) (b_op o_add (b_b c_len T.b_len (by kernel_rfl) (ba_c (b_ix ix_seq (bv 3) (bv 7) (fun _ _ => rfl)) ba_nil rfl)) b_int)) (ba_c (bv 8) ba_nil rfl) rfl)))
    (bss_one (bs_expr (bm_append (bv 4) (ba_c (bv 8) ba_nil rfl)))))
      bss_nil))))))
    (bss_one (bs_ret (b_tup (ba_c (bv 1) (ba_c (bv 2) (ba_c (b_tup (ba_c (b_t c_tuple T.b_tuple (by kernel_rfl) (ba_c (b_ix ix_seq (bv 3) b_int (fun _ _ => rfl)) ba_nil rfl)) (ba_c (b_t c_tuple T.b_tuple (by kernel_rfl) (ba_c (b_ix ix_seq (bv 3) b_int (fun _ _ => rfl)) ba_nil rfl)) (ba_c (b_t c_tuple T.b_tuple (by kernel_rfl) (ba_c (b_ix ix_seq (bv 3) b_int (fun _ _ => rfl)) ba_nil rfl)) ba_nil rfl) rfl) rfl)) ba_nil rfl) rfl) rfl))))))))), ?_⟩
    kas_types
    lcg_off
    refine cell_use (k := 0) hS rfl ?_
    lcg_off
    refine cell_use (k := 0) (by tlg_ne) rfl ?_
    lcg_off
    kaf_suf
    intro v1 hv1
    rename_i p1 H1 hp1 s1 h1
    obtain ⟨f', rfl, hf1, hf2⟩ : ∃ f' : Nat, v1 = .int (f' : Nat) ∧ 1 ≤ f' ∧ f' ≤ 9999999 := by
      have q0 := Int.emod_nonneg (ns.getD 0 0 / 4) (show (9999998 : Int) ≠ 0 by decide)
      have q1 := Int.emod_lt_of_pos (ns.getD 0 0 / 4) (show (0 : Int) < 9999998 by decide)
      simp only [List.mem_cons, List.not_mem_nil, or_false] at hv1
      rcases hv1 with rfl | rfl | rfl | rfl
      · exact ⟨1, rfl, by decide, by decide⟩
      · exact ⟨2, rfl, by decide, by decide⟩
      · exact ⟨9999999, rfl, by decide, by decide⟩
      · exact ⟨(2 + ns.getD 0 0 / 4 % 9999998).toNat, by congr 1; omega, by omega, by omega⟩
    clear hv1
    lcg_off
    refine cell_use (k := 1) (by tlg_ne) rfl ?_
    lcg_off
    refine cell_use (k := 1) (by tlg_ne) rfl ?_
    lcg_off
    kaf_suf
    intro v2 hv2
    rename_i p2 H2 hp2 s2 h2
    have p9 : (10 : Int) ^ Int.toNat 9 = 1000000000 := rfl
    obtain ⟨d, rfl, hd⟩ : ∃ d : Nat, v2 = .int (d : Nat) ∧ d ≤ 999999999 := by
      have q0 := Int.emod_nonneg (ns.getD 1 0 / 4) (show (1000000000 : Int) ≠ 0 by decide)
      have q1 := Int.emod_lt_of_pos (ns.getD 1 0 / 4) (show (0 : Int) < 1000000000 by decide)
      simp only [List.mem_cons, List.not_mem_nil, or_false, p9] at hv2
      rcases hv2 with rfl | rfl | rfl | rfl
      · exact ⟨0, rfl, by decide⟩
      · exact ⟨999999999, rfl, by decide⟩
      · exact ⟨1, rfl, by decide⟩
      · exact ⟨(ns.getD 1 0 / 4 % 1000000000).toNat, by congr 1; omega, by omega⟩
    clear hv2
    lcg_off
    rename_i q0 G0 hq0 sq0 gq0 q1 G1 hq1 sq1 gq1 q2 G2 hq2 sq2 gq2 pr G3 hpr sr gr pu G4 hpu su gu
    have n10 : q1 ≠ q0 := fun z => by rw [z, gq0] at hq1; cases hq1
    have n20 : q2 ≠ q0 := fun z => by rw [z, sq1 _ _ gq0] at hq2; cases hq2
    have n21 : q2 ≠ q1 := fun z => by rw [z, gq1] at hq2; cases hq2
    have nr0 : pr ≠ q0 := fun z => by rw [z, sq2 _ _ (sq1 _ _ gq0)] at hpr; cases hpr
    have nr1 : pr ≠ q1 := fun z => by rw [z, sq2 _ _ gq1] at hpr; cases hpr
    have nr2 : pr ≠ q2 := fun z => by rw [z, gq2] at hpr; cases hpr
    have nu0 : pu ≠ q0 := fun z => by rw [z, sr _ _ (sq2 _ _ (sq1 _ _ gq0))] at hpu; cases hpu
    have nu1 : pu ≠ q1 := fun z => by rw [z, sr _ _ (sq2 _ _ gq1)] at hpu; cases hpu
    have nu2 : pu ≠ q2 := fun z => by rw [z, sr _ _ gq2] at hpu; cases hpu
    have nur : pu ≠ pr := fun z => by rw [z, gr] at hpu; cases hpu
    have z0 : H q0 = none := s1.free (s2.free hq0)
    have z1 : H q1 = none := s1.free (s2.free (sq0.free hq1))
    have z2 : H q2 = none := s1.free (s2.free (sq0.free (sq1.free hq2)))
    have zr : H pr = none := s1.free (s2.free (sq0.free (sq1.free (sq2.free hpr))))
    have zu : H pu = none := s1.free (s2.free (sq0.free (sq1.free (sq2.free (sr.free hpu)))))
    have sH4 : Same H G4 := ((((((s1.trans s2).trans sq0).trans sq1).trans sq2).trans sr).trans su)
    have qz : ∀ j, j < 3 → H (qa q0 q1 q2 j) = none ∧ qa q0 q1 q2 j ≠ pr ∧ qa q0 q1 q2 j ≠ pu := fun j hj => by
      match j, hj with
      | 0, _ => exact ⟨z0, nr0.symm, nu0.symm⟩
      | 1, _ => exact ⟨z1, nr1.symm, nu1.symm⟩
      | 2, _ => exact ⟨z2, nr2.symm, nu2.symm⟩
    have qn : ∀ i j, i < 3 → j < 3 → i ≠ j → qa q0 q1 q2 i ≠ qa q0 q1 q2 j := fun i j hi hj hn => by
      match i, j, hi, hj with
      | 0, 0, _, _ => exact absurd rfl hn
      | 0, 1, _, _ => exact n10.symm
      | 0, 2, _, _ => exact n20.symm
      | 1, 0, _, _ => exact n10
      | 1, 1, _, _ => exact absurd rfl hn
      | 1, 2, _, _ => exact n21.symm
      | 2, 0, _, _ => exact n20
      | 2, 1, _, _ => exact n21
      | 2, 2, _, _ => exact absurd rfl hn
    have g0s : ∀ j, j < 3 → G4 (qa q0 q1 q2 j) = some (.lst (intsV [])) := fun j hj => by
      match j, hj with
      | 0, _ => exact su _ _ (sr _ _ (sq2 _ _ (sq1 _ _ gq0)))
      | 1, _ => exact su _ _ (sr _ _ (sq2 _ _ gq1))
      | 2, _ => exact su _ _ (sr _ _ gq2)
    have gr4 : G4 pr = some (.lst [.ref q0, .ref q1, .ref q2]) := su _ _ gr
    clear hq0 sq0 gq0 hq1 sq1 gq1 hq2 sq2 gq2 hpr sr gr hpu su h1 h2 s1 s2 hp1 hp2
    rw [List.length_map]
    refine forR (TInv H a pr pu q0 q1 q2 f' d)
      ⟨fun _ => [], [], none, none, none, none, rfl, ⟨List.nodup_nil, (fun n hn => by simp [allR] at hn), Nat.zero_le _, Nat.zero_le _⟩, Nat.le_refl _, Nat.le_refl _, (fun n hn => by simp [allR] at hn), sH4, gr4, g0s, gu⟩ (fun i σ G hi h => ?_) (fun σ G h => ?_)
    · obtain ⟨rs, us, o5, o6, o7, o8, rfl, hok, hr0, hul, hin, sG, gpr, gq, gpu⟩ := h
      have hi20 : i < 20 ∧ 4 + i < ns.length := by omega
      lcg_off
      refine rd_ixL (hS.same sG) (v := .int (ns.getD (4 + i) 0)) ?_ ?_
      · rw [show (4 : Int) + (i : Int) = ((4 + i : Nat) : Int) by omega]
        refine atI_nat ?_
        rw [List.getElem?_map, List.getElem?_eq_getElem hi20.2, List.getD_eq_getElem?_getD, List.getElem?_eq_getElem hi20.2]
        rfl
      lcg_off
      refine mixed_use ?_
      obtain ⟨mb0, mb1⟩ := mixed_bound (ns.getD (4 + i) 0) (4 + (i : Int))
      generalize mixed (ns.getD (4 + i) 0) (4 + (i : Int)) = m at *
      lcg_off
      kaf_suf
      intro v hv
      rename_i pa GA hpa sA hA
      obtain ⟨j, rfl, hj⟩ : ∃ j : Nat, v = .int (j : Nat) ∧ j < 3 := by
        simp only [List.mem_cons, List.not_mem_nil, or_false] at hv
        rcases hv with rfl | rfl | rfl | rfl | rfl | rfl
        · exact ⟨0, rfl, by decide⟩
        · exact ⟨0, rfl, by decide⟩
        · exact ⟨0, rfl, by decide⟩
        · exact ⟨0, rfl, by decide⟩
        · exact ⟨1, rfl, by decide⟩
        · exact ⟨2, rfl, by decide⟩
      lcg_off
      kaf_suf
      intro v3 hv3
      rename_i pb GB hpb sB hB
      obtain ⟨x, rfl⟩ : ∃ x : Int, v3 = .int x := by
        simp only [List.mem_cons, List.not_mem_nil, or_false] at hv3
        rcases hv3 with rfl | rfl | rfl <;> exact ⟨_, rfl⟩
      clear hv hv3
      have xm : (0 : Int) < max ((f' : Int) - 1) 1 := by omega
      have x0 := Int.emod_nonneg x (Int.ne_of_gt xm)
      have x1 := Int.emod_lt_of_pos x xm
      have gprB : GB pr = some (.lst [.ref q0, .ref q1, .ref q2]) := sB _ _ (sA _ _ gpr)
      have gqB : ∀ j, j < 3 → GB (qa q0 q1 q2 j) = some (.lst (intsV (rs j))) := fun j hj => sB _ _ (sA _ _ (gq j hj))
      have gpuB : GB pu = some (.lst (intsV us)) := sB _ _ (sA _ _ gpu)
      have sGB : Same H GB := (sG.trans sA).trans sB
      have hSB : SqL K GB a (ns.map V.int) := hS.same sGB
      have hat : atI [V.ref q0, V.ref q1, V.ref q2] ((j : Nat) : Int) = some (V.ref (qa q0 q1 q2 j)) := atI_nat (by
        match j, hj with
        | 0, _ => rfl
        | 1, _ => rfl
        | 2, _ => rfl)
      clear sA sB sG gpr gq gpu hA hB hpa hpb
      lcg_off
      obtain ⟨n, hn, hn1⟩ : ∃ n : Nat, 1 + x % max ((f' : Int) - 1) 1 = (n : Int) ∧ 1 ≤ n := ⟨(1 + x % max ((f' : Int) - 1) 1).toNat, by omega, by omega⟩
      rw [hn]
      clear x0 x1 xm hn
      have keep : ∀ G', Same GB G' → TInv H a pr pu q0 q1 q2 f' d (i + 1) [some (V.ref a), some (.int (f' : Nat)), some (.int (d : Nat)), some (.ref pr), some (.ref pu), some (.int (4 + (i : Int))), some (.int m), some (.int (j : Nat)), some (.int (n : Nat))] G' := fun G' s => ⟨rs, us, _, _, _, _, rfl, hok, by omega, by omega, hin, sGB.trans s, s _ _ gprB, fun j hj => s _ _ (gqB j hj), s _ _ gpuB⟩
      have done : n < f' → n ∉ us → (j = 0 ∨ rs j = []) → ∀ G' k, Same GB G' → TInv H a pr pu q0 q1 q2 f' d (i + 1) [some (V.ref a), some (.int (f' : Nat)), some (.int (d : Nat)), some (.ref pr), some (.ref pu), some (.int (4 + (i : Int))), some (.int m), some (.int (j : Nat)), some (.int (n : Nat))] (upd (upd G' (qa q0 q1 q2 j) (.lst (intsV (insL k n (rs j))))) pu (.lst (intsV us ++ [.int (n : Nat)]))) := fun h1 h2 h3 G' k s => by
        obtain ⟨y1, y2, y3⟩ := qz j hj
        refine ⟨putR rs j (insL k n (rs j)), us ++ [n], _, _, _, _, rfl, put_ok hj hok hn1 h1 (fun c => h2 (hin n c)) h3, ?_, by rw [List.length_append]; show us.length + 1 ≤ i + 1; omega, fun b hb => ?_, same_updL (same_updL (sGB.trans s) y1) zu, ?_, fun b hb => ?_, ?_⟩
        · show (if 0 = j then insL k n (rs j) else rs 0).length ≤ i + 1
          split
          · rename_i e
            rw [insL_len, ← e]; omega
          · omega
        · rcases List.mem_cons.mp ((put_perm hj).mem_iff.mp hb) with e | e
          · rw [e]; exact List.mem_append_right _ (List.mem_singleton.mpr rfl)
          · exact List.mem_append_left _ (hin b e)
        · rw [upd_ne nur.symm, upd_ne y2.symm]; exact s _ _ gprB
        · rw [upd_ne (qz b hb).2.2]
          by_cases e : b = j
          · subst e
            rw [upd_same]
            show _ = some (HO.lst (intsV (if b = b then insL k n (rs b) else rs b)))
            rw [if_pos rfl]
          · rw [upd_ne (qn b j hb hj e)]
            show _ = some (HO.lst (intsV (if b = j then insL k n (rs j) else rs b)))
            rw [if_neg e]
            exact s _ _ (gqB b hb)
        · rw [intsV_app]; exact upd_same
      refine ite_dec (fun h1 => ?_) (fun h1 => ?_)
      rotate_left
      · lcg_off
        exact keep _ (Same.refl _)
      lcg_off
      refine rd_inL (ns := intsI us) (SqL.of (by rw [← intsV_I]; exact gpuB)) rfl ?_
      rw [inV_ints]
      have hmem : ((n : Nat) : Int) ∈ intsI us ↔ n ∈ us := by
        unfold intsI
        rw [List.mem_map]
        exact ⟨fun ⟨b, hb, e⟩ => by rw [show n = b by omega]; exact hb, fun h => ⟨n, h, rfl⟩⟩
      by_cases hu : n ∈ us
      · rw [decide_eq_true (hmem.mpr hu), show (if true = true then !true else true) = false from rfl]
        lcg_off
        exact keep _ (Same.refl _)
      rw [decide_eq_false (fun c => hu (hmem.mp c)), show (if true = true then !false else false) = true from rfl]
      lcg_off
      refine ite_dec (fun h2 => ?_) (fun h2 => ?_)
      focus
        have h3 : j = 0 ∨ rs j = [] := .inl (by omega)
        obtain ⟨G', s, eG⟩ : ∃ G', Same GB G' ∧ GB = G' := ⟨GB, Same.refl _, rfl⟩
        rw [eG]
        rw [if_pos rfl]
      rotate_left
      focus
        lcg_off
        refine rd_ixL (SqL.of gprB) hat ?_
        lcg_off
        rename_i pe G' hpe s hE
        refine ⟨.lst ((rs j).map fun n => D.int (n : Nat)), .lst [], Rep.mkL (s _ _ (gqB j hj)) (ints_reps _), Rep.mkL hE Reps.nil', lst_dep _, by simp [D.dep, D.deps], ?_⟩
        rw [pyEq_emp]
        lcg_off
        refine ite_dec (fun h4 => ?_) (fun h4 => ?_)
        rotate_left
        focus
          lcg_off
          exact keep _ s
        have h3 : j = 0 ∨ rs j = [] := .inr h4
      all_goals
        have t1 := s _ _ gprB
        have t2 := s _ _ (gqB j hj)
        have t3 := s _ _ gpuB
        lcg_off
        refine rd_ixL (SqL.of t1) hat ?_
        refine ⟨.inl ⟨rfl, _, SqL.of t2⟩, ?_⟩
        lcg_off
        refine rd_ixL (SqL.of t1) hat ?_
        lcg_off
        have c0 := Int.emod_nonneg (m / 1500) (show ((intsV (rs j)).length : Int) + 1 ≠ 0 by omega)
        have c1 := Int.emod_lt_of_pos (m / 1500) (show (0 : Int) < ((intsV (rs j)).length : Int) + 1 by omega)
        have hle : (rs j).length ≤ 21 := by
          match j, hj with
          | 0, _ => omega
          | 1, _ => have := hok.2.2.1; omega
          | 2, _ => have := hok.2.2.2; omega
        refine rd_insert t2 c0 (by omega) (by rw [intsV_len, sizeLine_eq]; omega) ?_
        rw [intsV_ins]
        generalize (m / 1500 % (((intsV (rs j)).length : Int) + 1)).toNat = kk
        have t4 : upd G' (qa q0 q1 q2 j) (.lst (intsV (insL kk n (rs j)))) pu = some (.lst (intsV us)) := by rw [upd_ne (qz j hj).2.2.symm]; exact t3
        lcg_off
        refine rd_append t4 (by rw [intsV_len, sizeLine_eq]; omega) ?_
        exact done (by omega) hu h3 G' kk s
    · obtain ⟨rs, us, o5, o6, o7, o8, rfl, hok, hr0, hul, hin, sG, gpr, gq, gpu⟩ := h
      have w0 : G q0 = some (.lst (intsV (rs 0))) := gq 0 (by decide)
      have w1 : G q1 = some (.lst (intsV (rs 1))) := gq 1 (by decide)
      have w2 : G q2 = some (.lst (intsV (rs 2))) := gq 2 (by decide)
      lcg_off
      refine rd_tupleL (SqL.of w0) (fun x0 X0 hx0 sx0 ex0 => ?_)
      lcg_off
      refine rd_tupleL (by tlg_ne) (fun x1 X1 hx1 sx1 ex1 => ?_)
      lcg_off
      refine rd_tupleL (by tlg_ne) (fun x2 X2 hx2 sx2 ex2 => ?_)
      lcg_off
      rename_i y1 Y1 sy1 ey1 y2 Y2 sy2 ey2
      obtain ⟨o1, o2, o3, o4⟩ := hok
      refine q f' d (rs 0) (rs 1) (rs 2) _ _ ⟨hf1, hf2, hd, by omega, o3, o4, o1, o2⟩ (by lcg_sub) (tierI ey2 (sy2 _ _ ey1) ?_ ?_ ?_)
      · exact sy2 _ _ (sy1 _ _ (sx2 _ _ (sx1 _ _ ex0)))
      · exact sy2 _ _ (sy1 _ _ (sx2 _ _ ex1))
      · exact sy2 _ _ (sy1 _ _ ex2)
theorem tiers_use {K : PySem.W.Frag} {H : Hp} {Q : VK} {E : XK} {a : Addr} {ns : List Int} (h1 : SqL K H a (ns.map V.int)) (h2 : ns.length ≤ 63) (q : ∀ f d r0 r1 r2 v H', okTiers f d r0 r1 r2 → Same H H' → Rep H' (tierD f d r0 r1 r2) v → Q v H') : spTiers K [.ref a] H Q E := ⟨a, ns, rfl, h1, h2, q⟩

end
end T53


set_option Elab.async false
set_option linter.all false
set_option maxRecDepth 100000
set_option maxHeartbeats 4000000
namespace T53
open PySem L2
local macro_rules | `(tactic| lcg_src) => `(tactic| first | with_reducible assumption | ((with_reducible refine' Same.get ?s ?e); (case s => with_reducible assumption); (case e => lcg_src)))
local macro_rules | `(tactic| lcg_sub) => `(tactic| first | with_reducible assumption | with_reducible exact Same.refl _ | ((with_reducible refine' Same.tr ?s ?e); (case s => with_reducible assumption); (case e => lcg_sub)))
local macro_rules | `(tactic| keq_rows) => `(tactic| first | with_reducible assumption | with_reducible exact Rep.int' | with_reducible exact Rep.str' | with_reducible exact Rep.bl' | with_reducible exact Rep.non' | ((with_reducible refine' Rep.same ?s ?e); (case s => with_reducible assumption); (case e => keq_rows)) | ((with_reducible refine' Rep.mkT ?c ?_); (case c => lcg_src); keq_hits) | ((with_reducible refine' Rep.mkL ?c ?_); (case c => lcg_src); keq_hits) | ((with_reducible refine' Rep.mkD ?c); (case c => lcg_src)))
local macro_rules | `(tactic| keq_hits) => `(tactic| first | with_reducible assumption | with_reducible exact Reps.nil' | ((with_reducible refine' Reps.cons' ?c ?_); (case c => keq_rows); keq_hits) | ((with_reducible refine' Reps.same ?s ?e); (case s => with_reducible assumption); (case e => keq_hits)))
local macro_rules | `(tactic| tlg_ne) => `(tactic| first | with_reducible assumption | ((with_reducible refine' SqL.of ?c); (case c => lcg_src)) | ((with_reducible refine' SqT.of ?c); (case c => lcg_src)) | ((with_reducible refine' SqL.same ?s ?e); (case s => with_reducible assumption); (case e => tlg_ne)))
local macro_rules | `(tactic| kpc_turns) => `(tactic| first | decide | omega | (constructor <;> first | decide | omega))
local macro_rules | `(tactic| kas_types) => `(tactic| simp only [cxK, cxK', compK, triedK, heldXK, start_cc, start_cn, start_nn])
local macro_rules | `(tactic| kpt_turns) => `(tactic| first
  | refine rd_go ?_
  | ((with_reducible refine' rd_mod ?c ?_); (case c => kpc_turns))
  | ((with_reducible refine' rd_fdiv ?c ?_); (case c => kpc_turns))
  | ((with_reducible refine' rd_mulI ?c ?_); (case c => first | exact .inl (by kpc_turns) | exact .inr (by kpc_turns)))
  | ((with_reducible refine' rd_mkT ?c ?_); (case c => (simp only [List.length_cons, List.length_nil]; decide)); intro _ _ _ _)
  | ((with_reducible refine' rd_mkL ?c ?_); (case c => (simp only [List.length_cons, List.length_nil]; decide)); intro _ _ _ _ _)
  | ((with_reducible refine' rd_ixT ?c ?d ?_); (case c => tlg_ne); (case d => exact rfl))
  | ((with_reducible refine' rd_ixL ?c ?d ?_); (case c => tlg_ne); (case d => exact rfl))
  | ((with_reducible refine' rd_isT ?c ?_); (case c => lcg_src))
  | ((with_reducible refine' rd_isL ?c ?_); (case c => lcg_src))
  | ((with_reducible refine' rd_isD ?c ?_); (case c => lcg_src))
  | ((with_reducible refine' rd_lenT ?c ?_); (case c => tlg_ne))
  | ((with_reducible refine' rd_lenL ?c ?_); (case c => tlg_ne))
  | ((with_reducible refine' rd_lenS ?c ?_); (case c => first | assumption | (show _ ≤ 16777216; decide) | omega))
  | ((with_reducible refine' rd_slT ?c ?d ?_); (case c => tlg_ne); (case d => simp [HT.sIx]; done); intro _ _ _ h; (simp [cutV, HT.sIx] at h))
  | ((with_reducible refine' rd_bmL ?c ?_); (case c => lcg_src))
  | ((with_reducible refine' rd_shr ?c ?_); (case c => omega))
  | ((with_reducible refine' rd_dnew ?_); intro _ _ _ _ _)
  | ((with_reducible refine' rd_pow ?c ?_); (case c => kpc_turns))
  | ((with_reducible refine' rd_exL ?c ?_); (case c => tlg_ne))
  | ((with_reducible refine' rd_exT ?c ?_); (case c => tlg_ne))
  | ((with_reducible refine' rd_exr1 ?c ?_); (case c => kpc_turns))
  | ((with_reducible refine' rd_exr2 ?c ?_); (case c => refine ⟨?_, ?_, ?_, ?_⟩ <;> first | decide | omega))
  | ((with_reducible refine' rd_gTup ?c ?d ?_); (case c => tlg_ne); (case d => exact rfl))
  | ((with_reducible refine' rd_listL ?c ?_); (case c => tlg_ne); intro _ _ _ _ _)
  | ((with_reducible refine' rd_listT ?c ?_); (case c => tlg_ne); intro _ _ _ _ _)
  | ((with_reducible refine' rd_addL ?c ?d ?e ?_); (case c => lcg_src); (case d => lcg_src); (case e => first | (simp only [List.length_cons, List.length_nil]; decide) | (simp only [List.length_cons, List.length_nil, List.length_append, sizeLine_eq]; omega)); intro _ _ _ _ h; (try simp only [List.cons_append, List.nil_append] at h))
  | ((with_reducible refine' rd_addT ?c ?d ?f ?e ?_); (case c => lcg_src); (case d => lcg_src); (case f => (intro h; cases h)); (case e => first | (simp only [List.length_cons, List.length_nil]; decide) | (simp only [List.length_cons, List.length_nil, List.length_append, sizeLine_eq]; omega)); intro _ _ _ h; (try simp only [List.cons_append, List.nil_append] at h)))
local macro_rules | `(tactic| lcg_off) => `(tactic| repeat kpt_turns)
local macro_rules | `(tactic| kaf_pre) => `(tactic| ((with_reducible refine' rd_menu ?c ?a ?b ?_); (case c => tlg_ne); (case a => first | exact Int.emod_nonneg _ (by decide) | omega); (case b => first | exact Int.emod_lt_of_pos _ (by decide) | (simp only [List.length_cons, List.length_nil]; omega))))
local macro_rules | `(tactic| kaf_suf) => `(tactic| ((with_reducible refine' rd_pick ?c ?a ?b ?_); (case c => tlg_ne); (case a => first | exact Int.emod_nonneg _ (by decide) | omega); (case b => first | exact Int.emod_lt_of_pos _ (by decide) | (simp only [List.length_cons, List.length_nil]; omega))))
section
variable {P : Program} {w : World} {K : PySem.W.Frag} {mg : Str → Option Value} {base : Heap}
/-! ### the law's own lines -/
def spText : Sp := fun vs H Q _ => ∃ v f d r0 r1 r2, vs = [v] ∧ Rep H (tierD f d r0 r1 r2) v ∧ okTiers f d r0 r1 r2 ∧ ∀ p H', H p = none → Same H H' → H' p = some (.lst ((tiersB f d r0 r1 r2).map V.str)) → Q (.ref p) H'
theorem sc__law_text : FnScope ["_law_tiers_here", "_law_lines", "_law_row"] ["_law_tiers_here"] (defScope s__law_text) := ⟨rfl, rfl, rfl, by decide +kernel, rfl, by decide +kernel, by decide +kernel⟩
theorem ok__law_text (T : Txt K mg) {f : Addr} {fd : FuncData} (N : Fn K mg "_law_text" s__law_text ["_law_tiers_here"] f fd) : FnOk P w K mg base CX0 (2) f fd ["_law_tiers_here"] (spText) := by
  refine N.fu.okB sc__law_text (fun vs H Q E h => ?_) (fun cdv A outer s H vs Q E hr h => ?_)
  · obtain ⟨v, f', d, r0, r1, r2, rfl, _⟩ := h
    rfl
  · obtain ⟨v, f', d, r0, r1, r2, rfl, hT, hok, q⟩ := h
    obtain ⟨pt, pq, a0, a1, a2, rfl, ht, hq, h0, h1, h2⟩ := tierE hT
    obtain ⟨l0, l1, l2⟩ := ok_le hok
    obtain ⟨_, hf, hd, hl0, hl1, hl2, _, _⟩ := hok
    have b1 := numT_l7 hf
    have b2 := numT_l9 hd
    refine ⟨_, (bss_cons (bs_set (i := 1) sc__law_text.nd rfl (by first | exact Or.inl rfl | exact Or.inr rfl) (b_lst (ba_c (b_op o_add b_str (b_t c_str T.b_str (by kernel_rfl) (ba_c (b_ix ix_seq (bv 0) b_int (fun _ _ => rfl)) ba_nil rfl))) (ba_c (b_op o_add b_str (b_t c_str T.b_str (by kernel_rfl) (ba_c (b_ix ix_seq (bv 0) b_int (fun _ _ => rfl)) ba_nil rfl))) ba_nil rfl) rfl)))
    (bss_cons (bs_for PassesOwn.never rfl (bi_tup (b_ix ix_seq (bv 0) b_int (fun _ _ => rfl))) (bg_name (i := 2) sc__law_text.nd rfl (by first | exact Or.inl rfl | exact Or.inr rfl))
      (bss_one (bs_expr (bm_append (bv 1) (ba_c (bm_join b_str (ba_c (b_op o_add (b_lst (ba_c b_str ba_nil rfl)) (b_lc (x := "_law_number_here") (ix := []) (fv := []) (osc := defScope s__law_text) rfl ⟨rfl, by decide +kernel, by decide +kernel, by rfl, by decide +kernel, by decide +kernel, by decide +kernel⟩ (by rfl) (bi_tup (bv 2)) (fun _ _ _ _ => bf_nil) (fun _ _ _ _ => (b_t c_str T.b_str (by kernel_rfl) (ba_c (bv 0) ba_nil rfl))))) ba_nil rfl)) ba_nil rfl)))))
    (bss_one (bs_ret (bv 1))))), ?_⟩
    kas_types
    lcg_off
    refine rd_str (log_small _ (by omega)) ?_
    lcg_off
    refine rd_addS (by rw [numT_def, len_fresh, sizeLine_eq]; omega) ?_
    lcg_off
    refine rd_str (log_small _ (by omega)) ?_
    lcg_off
    refine rd_addS (by rw [numT_def, len_poured, sizeLine_eq]; omega) ?_
    lcg_off
    rename_i p1 H1 hp1 s1 g1
    rw [numT_def, numT_def] at g1
    refine forT (xs := [.ref a0, .ref a1, .ref a2]) (fun i σ G => ∃ o, σ = [some (.ref pt), some (.ref p1), o] ∧ Same H G ∧ G p1 = some (.lst ((freshB f' :: pouredB d :: ([r0, r1, r2].take i).map tierB).map V.str))) ⟨none, rfl, s1, g1⟩ (fun i σ G h => by obtain ⟨_, _, s, _⟩ := h; exact SqT.of (s _ _ hq)) (fun i x σ G hi hx h => ?_) (fun σ G h => ?_)
    · obtain ⟨o, rfl, sG, gp⟩ := h
      have hi3 : i < 3 := hi
      obtain ⟨a, rfl, ns, hG, hns, hnl, hnb⟩ : ∃ a, x = .ref a ∧ ∃ ns, G a = some (.tup (intsV ns)) ∧ [r0, r1, r2].take (i + 1) = [r0, r1, r2].take i ++ [ns] ∧ ns.length ≤ 20 ∧ ∀ n ∈ ns, n ≤ 9999999 := by
        match i, hi3 with
        | 0, _ => cases hx; exact ⟨a0, rfl, r0, sG _ _ h0, rfl, hl0, l0⟩
        | 1, _ => cases hx; exact ⟨a1, rfl, r1, sG _ _ h1, rfl, by omega, l1⟩
        | 2, _ => cases hx; exact ⟨a2, rfl, r2, sG _ _ h2, rfl, by omega, l2⟩
      lcg_off
      refine ⟨rfl, ?_⟩
      lcg_off
      rename_i p4 H4 hp4 s4 g4
      refine lcWt (xs := intsV ns) (fun i ys G' => G' = H4 ∧ i ≤ ns.length ∧ ys = ((ns.take i).map numT).map V.str) (by rw [intsV_len, sizeLine_eq]; omega) ⟨rfl, Nat.zero_le _, rfl⟩ (fun i ys G' h => ⟨h.1 ▸ SqT.of (s4 _ _ hG), ?_⟩) (fun i v ys G' hv h => ?_) (fun ys p2 G' H2 h hp2 sp g2 => ?_)
      · rw [h.2.2, List.length_map, List.length_map, List.length_take]
        have := h.2.1
        omega
      · obtain ⟨rfl, _, rfl⟩ := h
        unfold intsV at hv
        rw [List.getElem?_map] at hv
        obtain ⟨n, hn', rfl⟩ := Option.map_eq_some_iff.mp hv
        lcg_off
        refine rd_str (log_small _ (by have := hnb n (List.mem_of_getElem? hn'); omega)) ⟨rfl, (List.getElem?_eq_some_iff.mp hn').1, ?_⟩
        rw [List.take_add_one, hn', List.map_append, List.map_append]
        rfl
      · obtain ⟨rfl, _, rfl⟩ := h
        rw [intsV_len, List.take_length] at g2
        lcg_off
        refine rd_addL (by lcg_src) g2 (by rw [List.length_map, List.length_map, sizeLine_eq]; simp only [List.length_cons, List.length_nil]; omega) (fun p3 H3 hp3 s3 g3 => ?_)
        lcg_off
        have hsum := sum_num hnb
        refine ⟨_, p3, Str.ofString "tier" :: ns.map numT, rfl, rfl, SqL.of g3, ?_, ?_⟩
        · rw [List.map_cons, List.sum_cons, len_tier, len_bl, List.length_cons, List.length_map]
          omega
        rw [join_tail]
        have gp3 : H3 p1 = some (.lst ((freshB f' :: pouredB d :: ([r0, r1, r2].take i).map tierB).map V.str)) := by lcg_src
        have sH3 : Same H H3 := by lcg_sub
        lcg_off
        refine rd_append gp3 ?_ ?_
        rotate_left
        refine ⟨_, rfl, same_updL sH3 hp1, ?_⟩
        rotate_left
        · rw [List.length_map, List.length_cons, List.length_cons, List.length_map, List.length_take, sizeLine_eq]
          omega
        · rw [upd_same, hns, List.map_append, ← List.cons_append, ← List.cons_append, List.map_append]
          rfl
    · obtain ⟨o, rfl, sG, gp⟩ := h
      lcg_off
      exact q _ _ hp1 sG gp
theorem text_use {H : Hp} {Q : VK} {E : XK} {v : V} (f d : Nat) (r0 r1 r2 : List Nat) (h1 : Rep H (tierD f d r0 r1 r2) v) (h2 : okTiers f d r0 r1 r2) (q : ∀ p H', H p = none → Same H H' → H' p = some (.lst ((tiersB f d r0 r1 r2).map V.str)) → Q (.ref p) H') : spText [v] H Q E := ⟨v, f, d, r0, r1, r2, rfl, h1, h2, q⟩

end
end T53


set_option Elab.async false
set_option linter.all false
set_option maxRecDepth 100000
set_option maxHeartbeats 4000000
namespace T53
open PySem L2
local macro_rules | `(tactic| lcg_src) => `(tactic| first | with_reducible assumption | ((with_reducible refine' Same.get ?s ?e); (case s => with_reducible assumption); (case e => lcg_src)))
local macro_rules | `(tactic| lcg_sub) => `(tactic| first | with_reducible assumption | with_reducible exact Same.refl _ | ((with_reducible refine' Same.tr ?s ?e); (case s => with_reducible assumption); (case e => lcg_sub)))
local macro_rules | `(tactic| keq_rows) => `(tactic| first | with_reducible assumption | with_reducible exact Rep.int' | with_reducible exact Rep.str' | with_reducible exact Rep.bl' | with_reducible exact Rep.non' | ((with_reducible refine' Rep.same ?s ?e); (case s => with_reducible assumption); (case e => keq_rows)) | ((with_reducible refine' Rep.mkT ?c ?_); (case c => lcg_src); keq_hits) | ((with_reducible refine' Rep.mkL ?c ?_); (case c => lcg_src); keq_hits) | ((with_reducible refine' Rep.mkD ?c); (case c => lcg_src)))
local macro_rules | `(tactic| keq_hits) => `(tactic| first | with_reducible assumption | with_reducible exact Reps.nil' | ((with_reducible refine' Reps.cons' ?c ?_); (case c => keq_rows); keq_hits) | ((with_reducible refine' Reps.same ?s ?e); (case s => with_reducible assumption); (case e => keq_hits)))
local macro_rules | `(tactic| tlg_ne) => `(tactic| first | with_reducible assumption | ((with_reducible refine' SqL.of ?c); (case c => lcg_src)) | ((with_reducible refine' SqT.of ?c); (case c => lcg_src)) | ((with_reducible refine' SqL.same ?s ?e); (case s => with_reducible assumption); (case e => tlg_ne)))
local macro_rules | `(tactic| kpc_turns) => `(tactic| first | decide | omega | (constructor <;> first | decide | omega))
local macro_rules | `(tactic| kas_types) => `(tactic| simp only [cxK, cxK', compK, triedK, heldXK, start_cc, start_cn, start_nn])
local macro_rules | `(tactic| kpt_turns) => `(tactic| first
  | refine rd_go ?_
  | ((with_reducible refine' rd_mod ?c ?_); (case c => kpc_turns))
  | ((with_reducible refine' rd_fdiv ?c ?_); (case c => kpc_turns))
  | ((with_reducible refine' rd_mulI ?c ?_); (case c => first | exact .inl (by kpc_turns) | exact .inr (by kpc_turns)))
  | ((with_reducible refine' rd_mkT ?c ?_); (case c => (simp only [List.length_cons, List.length_nil]; decide)); intro _ _ _ _)
  | ((with_reducible refine' rd_mkL ?c ?_); (case c => (simp only [List.length_cons, List.length_nil]; decide)); intro _ _ _ _ _)
  | ((with_reducible refine' rd_ixT ?c ?d ?_); (case c => tlg_ne); (case d => exact rfl))
  | ((with_reducible refine' rd_ixL ?c ?d ?_); (case c => tlg_ne); (case d => exact rfl))
  | ((with_reducible refine' rd_isT ?c ?_); (case c => lcg_src))
  | ((with_reducible refine' rd_isL ?c ?_); (case c => lcg_src))
  | ((with_reducible refine' rd_isD ?c ?_); (case c => lcg_src))
  | ((with_reducible refine' rd_lenT ?c ?_); (case c => tlg_ne))
  | ((with_reducible refine' rd_lenL ?c ?_); (case c => tlg_ne))
  | ((with_reducible refine' rd_lenS ?c ?_); (case c => first | assumption | (show _ ≤ 16777216; decide) | omega))
  | ((with_reducible refine' rd_slT ?c ?d ?_); (case c => tlg_ne); (case d => simp [HT.sIx]; done); intro _ _ _ h; (simp [cutV, HT.sIx] at h))
  | ((with_reducible refine' rd_bmL ?c ?_); (case c => lcg_src))
  | ((with_reducible refine' rd_shr ?c ?_); (case c => omega))
  | ((with_reducible refine' rd_dnew ?_); intro _ _ _ _ _)
  | ((with_reducible refine' rd_pow ?c ?_); (case c => kpc_turns))
  | ((with_reducible refine' rd_exL ?c ?_); (case c => tlg_ne))
  | ((with_reducible refine' rd_exT ?c ?_); (case c => tlg_ne))
  | ((with_reducible refine' rd_exr1 ?c ?_); (case c => kpc_turns))
  | ((with_reducible refine' rd_exr2 ?c ?_); (case c => refine ⟨?_, ?_, ?_, ?_⟩ <;> first | decide | omega))
  | ((with_reducible refine' rd_gTup ?c ?d ?_); (case c => tlg_ne); (case d => exact rfl))
  | ((with_reducible refine' rd_listL ?c ?_); (case c => tlg_ne); intro _ _ _ _ _)
  | ((with_reducible refine' rd_listT ?c ?_); (case c => tlg_ne); intro _ _ _ _ _)
  | ((with_reducible refine' rd_addL ?c ?d ?e ?_); (case c => lcg_src); (case d => lcg_src); (case e => first | (simp only [List.length_cons, List.length_nil]; decide) | (simp only [List.length_cons, List.length_nil, List.length_append, sizeLine_eq]; omega)); intro _ _ _ _ h; (try simp only [List.cons_append, List.nil_append] at h))
  | ((with_reducible refine' rd_addT ?c ?d ?f ?e ?_); (case c => lcg_src); (case d => lcg_src); (case f => (intro h; cases h)); (case e => first | (simp only [List.length_cons, List.length_nil]; decide) | (simp only [List.length_cons, List.length_nil, List.length_append, sizeLine_eq]; omega)); intro _ _ _ h; (try simp only [List.cons_append, List.nil_append] at h)))
local macro_rules | `(tactic| lcg_off) => `(tactic| repeat kpt_turns)
local macro_rules | `(tactic| kaf_pre) => `(tactic| ((with_reducible refine' rd_menu ?c ?a ?b ?_); (case c => tlg_ne); (case a => first | exact Int.emod_nonneg _ (by decide) | omega); (case b => first | exact Int.emod_lt_of_pos _ (by decide) | (simp only [List.length_cons, List.length_nil]; omega))))
local macro_rules | `(tactic| kaf_suf) => `(tactic| ((with_reducible refine' rd_pick ?c ?a ?b ?_); (case c => tlg_ne); (case a => first | exact Int.emod_nonneg _ (by decide) | omega); (case b => first | exact Int.emod_lt_of_pos _ (by decide) | (simp only [List.length_cons, List.length_nil]; omega))))
section
variable {P : Program} {w : World} {K : PySem.W.Frag} {mg : Str → Option Value} {base : Heap}
/-! ### the law's own numbers -/
theorem repsS {H : Hp} : ∀ cs : List Nat, Reps H (cs.map fun c => D.str ⟨#[c]⟩) (cs.map fun c => V.str ⟨#[c]⟩)
  | [] => Reps.nil'
  | c :: cs => Reps.cons' Rep.str' (repsS cs)
theorem depsS : ∀ cs : List Nat, D.deps (cs.map fun c => D.str ⟨#[c]⟩) = 0
  | [] => by simp [D.deps]
  | c :: cs => by rw [List.map_cons]; simp only [D.deps, D.dep, depsS cs]; rfl
theorem eqs_nil (ds : List D) : pyEq (.lst ds) (.lst []) = ds.isEmpty := by
  simp only [pyEq]
  cases ds <;> simp [pyEqs]
theorem head48 {z : Str} (h : z ≠ Str.ofString "") : ∃ c, atI z.cps.toList 0 = some c ∧ ((⟨#[c]⟩ : Str) = Str.ofString "0" ↔ atI z.cps.toList 0 = some 48) := by
  have h1 : z.cps.toList ≠ [] := fun e => h (str_empty.mpr e)
  have h2 : 0 < z.cps.toList.length := List.length_pos_iff.mpr h1
  have e : atI z.cps.toList 0 = some z.cps.toList[0] := atI_nat (j := 0) (List.getElem?_eq_getElem h2)
  refine ⟨_, e, ?_⟩
  rw [e, show Str.ofString "0" = ⟨#[48]⟩ by decide +kernel]
  constructor
  · intro h
    injection h with h
    have : z.cps.toList[0] = 48 := by simpa using h
    rw [this]
  · intro h
    rw [Option.some.inj h]
def spNum : Sp := fun vs H Q _ => ∃ (z : Str) (least most : Int), vs = [.str z, .int least, .int most] ∧ z.length ≤ 5000 ∧ ∀ H', Same H H' → Q (optI (rfM least most 10 z)) H'
theorem sc__law_number : FnScope ["_law_word", "_law_least", "_law_most"] ["_law_word", "_law_least", "_law_most"] (defScope s__law_number) := ⟨rfl, rfl, rfl, by decide +kernel, rfl, by decide +kernel, by decide +kernel⟩
theorem ok__law_number (T : Txt K mg) {f : Addr} {fd : FuncData} (N : Fn K mg "_law_number" s__law_number ["_law_word", "_law_least", "_law_most"] f fd) : FnOk P w K mg base CX0 (1) f fd ["_law_word", "_law_least", "_law_most"] (spNum) := by
  refine N.fu.okB sc__law_number (fun vs H Q E h => ?_) (fun cdv A outer s H vs Q E hr h => ?_)
  · obtain ⟨z, least, most, rfl, _⟩ := h
    rfl
  · obtain ⟨z, least, most, rfl, hz, q⟩ := h
    have hzs : z.length ≤ sizeLine := by rw [sizeLine_eq]; omega
    refine ⟨_, (bss_cons (bs_if (bt_w (bw_or (bt_cmp (o_eqD (room100 hr)) (bv 0) b_str (nomark _)) (bw_or (bt_cmp op_gt (b_b c_len T.b_len (by kernel_rfl) (ba_c (bv 0) ba_nil rfl)) b_int (nomark _)) (bw_or1 (bt_w (bw_and (bt_cmp (o_eqD (room100 hr)) (b_ix ix_seq (bv 0) b_int (fun _ _ => rfl)) b_str (nomark _)) (bw_and1 (bt_cmp (o_neD (room100 hr)) (bv 0) b_str (nomark _)))))))))
      (bss_one (bs_ret b_non))
      bss_nil)
    (bss_cons (bs_if (bt_w (bw_or (bt_cmp (o_neD (room100 hr)) (b_lc (x := "_law_sign") (ix := []) (fv := []) (osc := defScope s__law_number) rfl ⟨rfl, by decide +kernel, by decide +kernel, by rfl, by decide +kernel, by decide +kernel, by decide +kernel⟩ (by rfl) (bi_str (bv 0)) (fun _ _ _ _ => (bf_one (bt_cmp op_notin_str (bv 0) b_str rfl))) (fun _ _ _ _ => (bv 0))) (b_lst ba_nil) (nomark _)) (bw_or1 (bt_not (bt_chain o_le o_le (bv 1) (b_t c_int T.b_int (by kernel_rfl) (ba_c (bv 0) ba_nil rfl)) (bv 2))))))
      (bss_one (bs_ret b_non))
      bss_nil)
    (bss_one (bs_ret (b_t c_int T.b_int (by kernel_rfl) (ba_c (bv 0) ba_nil rfl)))))), ?_⟩
    kas_types
    rw [show Str.ofString "0123456789" = FIG from rfl]
    have no : ∀ H', Same H H' → ¬ (z.length ≤ 10 ∧ figB z = true ∧ ¬ (atI z.cps.toList 0 = some 48 ∧ z ≠ Str.ofString "0") ∧ least ≤ (numM z : Int) ∧ (numM z : Int) ≤ most) → Q .non H' := fun H' s h => by
      have := q H' s
      rw [show rfM least most 10 z = none from if_neg h] at this
      exact this
    lcg_off
    refine ite_dec (fun h1 => ?_) (fun h1 => ?_)
    · lcg_off
      exact no _ (Same.refl _) fun h => (figB_iff.mp h.2.1).1 (str_empty.mp h1)
    obtain ⟨c, hc, hc48⟩ := head48 h1
    lcg_off
    refine ite_dec (fun h2 => ?_) (fun h2 => ?_)
    · lcg_off
      exact no _ (Same.refl _) fun h => by omega
    lcg_off
    refine rd_ixS hzs hc ?_
    lcg_off
    refine ite_dec (fun h3 => ?_) (fun h3 => ?_)
    focus
      lcg_off
      refine ite_ndec (fun h4 => ?_) (fun h4 => ?_)
      · lcg_off
        exact no _ (Same.refl _) fun h => h.2.2.1 ⟨hc48.mp h3, h4⟩
      have nz : ¬ (atI z.cps.toList 0 = some 48 ∧ z ≠ Str.ofString "0") := fun h => h.2 h4
    rotate_left
    focus
      have nz : ¬ (atI z.cps.toList 0 = some 48 ∧ z ≠ Str.ofString "0") := fun h => h3 (hc48.mpr h.1)
    all_goals
      lcg_off
      refine lcSf (fun c => .str ⟨#[c]⟩) (fun c => !isFig c) hzs (fun c hc R h => ?_) (fun c hc R h => ?_) (fun pl H2 hp0 s2 hl2 => ?_)
      · lcg_off
        refine ⟨_, _, rfl, rfl, ?_⟩
        rw [fig_in]
        lcg_off
        exact h
      · lcg_off
        exact h
      lcg_off
      rename_i pe H3 hpe s3 he
      refine ⟨.lst ((z.cps.toList.filter fun c => !isFig c).map fun c => .str ⟨#[c]⟩), .lst [], Rep.mkL (by lcg_src) (repsS _), Rep.mkL (by lcg_src) Reps.nil', by simp only [D.dep, depsS]; omega, by simp [D.dep, D.deps], ?_⟩
      rw [eqs_nil]
      lcg_off
      have s03 : Same H H3 := by lcg_sub
      cases hF : z.cps.toList.all isFig with
      | false =>
        have hne : ((z.cps.toList.filter fun c => !isFig c).map fun c => D.str ⟨#[c]⟩).isEmpty = false := by
          rw [List.isEmpty_map]
          rw [List.all_eq_false] at hF
          obtain ⟨c, hc, hn⟩ := hF
          have : c ∈ z.cps.toList.filter fun c => !isFig c := List.mem_filter.mpr ⟨hc, by simpa using hn⟩
          cases hx : z.cps.toList.filter fun c => !isFig c with
          | nil => rw [hx] at this; cases this
          | cons _ _ => rfl
        rw [hne]
        lcg_off
        refine no _ s03 fun h => ?_
        have := (Bool.and_eq_true _ _ ▸ (show figB z = true from h.2.1) : _ ∧ _).2
        rw [hF] at this
        cases this
      | true =>
        have hfig : figB z = true := by unfold figB; rw [hF, decide_eq_true h1]; rfl
        have hem : ((z.cps.toList.filter fun c => !isFig c).map fun c => D.str ⟨#[c]⟩).isEmpty = true := by
          rw [List.isEmpty_map]
          rw [List.all_eq_true] at hF
          have : z.cps.toList.filter (fun c => !isFig c) = [] := List.filter_eq_nil_iff.mpr fun c hc => by rw [hF c hc]; decide
          rw [this]
          rfl
        rw [hem]
        have hit := fig_reads hfig (by omega)
        have h6' : z.length ≤ 640 := by omega
        lcg_off
        refine rd_intT hit h6' ?_
        lcg_off
        refine ite_dec (fun a1 => ?_) (fun a1 => ?_)
        · lcg_off
          by_cases a2 : (numM z : Int) ≤ most
          · rw [decide_eq_true a2]
            lcg_off
            refine rd_intT hit h6' ?_
            have := q _ s03
            rw [show rfM least most 10 z = some (numM z : Int) from if_pos ⟨by omega, hfig, nz, a1, a2⟩] at this
            exact this
          · rw [decide_eq_false a2]
            lcg_off
            exact no _ s03 fun h => a2 h.2.2.2.2
        · lcg_off
          exact no _ s03 fun h => a1 h.2.2.2.1
theorem num_use {H : Hp} {Q : VK} {E : XK} {z : Str} {least most : Int} (h : z.length ≤ 5000) (q : ∀ H', Same H H' → Q (optI (rfM least most 10 z)) H') : spNum [.str z, .int least, .int most] H Q E := ⟨z, least, most, rfl, h, q⟩

end
end T53


set_option Elab.async false
set_option linter.all false
set_option maxRecDepth 100000
set_option maxHeartbeats 4000000
namespace T53
open PySem L2
local macro_rules | `(tactic| lcg_src) => `(tactic| first | with_reducible assumption | ((with_reducible refine' Same.get ?s ?e); (case s => with_reducible assumption); (case e => lcg_src)))
local macro_rules | `(tactic| lcg_sub) => `(tactic| first | with_reducible assumption | with_reducible exact Same.refl _ | ((with_reducible refine' Same.tr ?s ?e); (case s => with_reducible assumption); (case e => lcg_sub)))
local macro_rules | `(tactic| keq_rows) => `(tactic| first | with_reducible assumption | with_reducible exact Rep.int' | with_reducible exact Rep.str' | with_reducible exact Rep.bl' | with_reducible exact Rep.non' | ((with_reducible refine' Rep.same ?s ?e); (case s => with_reducible assumption); (case e => keq_rows)) | ((with_reducible refine' Rep.mkT ?c ?_); (case c => lcg_src); keq_hits) | ((with_reducible refine' Rep.mkL ?c ?_); (case c => lcg_src); keq_hits) | ((with_reducible refine' Rep.mkD ?c); (case c => lcg_src)))
local macro_rules | `(tactic| keq_hits) => `(tactic| first | with_reducible assumption | with_reducible exact Reps.nil' | ((with_reducible refine' Reps.cons' ?c ?_); (case c => keq_rows); keq_hits) | ((with_reducible refine' Reps.same ?s ?e); (case s => with_reducible assumption); (case e => keq_hits)))
local macro_rules | `(tactic| tlg_ne) => `(tactic| first | with_reducible assumption | ((with_reducible refine' SqL.of ?c); (case c => lcg_src)) | ((with_reducible refine' SqT.of ?c); (case c => lcg_src)) | ((with_reducible refine' SqL.same ?s ?e); (case s => with_reducible assumption); (case e => tlg_ne)))
local macro_rules | `(tactic| kpc_turns) => `(tactic| first | decide | omega | (constructor <;> first | decide | omega))
local macro_rules | `(tactic| kas_types) => `(tactic| simp only [cxK, cxK', compK, triedK, heldXK, start_cc, start_cn, start_nn])
local macro_rules | `(tactic| kpt_turns) => `(tactic| first
  | refine rd_go ?_
  | ((with_reducible refine' rd_mod ?c ?_); (case c => kpc_turns))
  | ((with_reducible refine' rd_fdiv ?c ?_); (case c => kpc_turns))
  | ((with_reducible refine' rd_mulI ?c ?_); (case c => first | exact .inl (by kpc_turns) | exact .inr (by kpc_turns)))
  | ((with_reducible refine' rd_mkT ?c ?_); (case c => (simp only [List.length_cons, List.length_nil]; decide)); intro _ _ _ _)
  | ((with_reducible refine' rd_mkL ?c ?_); (case c => (simp only [List.length_cons, List.length_nil]; decide)); intro _ _ _ _ _)
  | ((with_reducible refine' rd_ixT ?c ?d ?_); (case c => tlg_ne); (case d => exact rfl))
  | ((with_reducible refine' rd_ixL ?c ?d ?_); (case c => tlg_ne); (case d => exact rfl))
  | ((with_reducible refine' rd_isT ?c ?_); (case c => lcg_src))
  | ((with_reducible refine' rd_isL ?c ?_); (case c => lcg_src))
  | ((with_reducible refine' rd_isD ?c ?_); (case c => lcg_src))
  | ((with_reducible refine' rd_lenT ?c ?_); (case c => tlg_ne))
  | ((with_reducible refine' rd_lenL ?c ?_); (case c => tlg_ne))
  | ((with_reducible refine' rd_lenS ?c ?_); (case c => first | assumption | (show _ ≤ 16777216; decide) | omega))
  | ((with_reducible refine' rd_slT ?c ?d ?_); (case c => tlg_ne); (case d => simp [HT.sIx]; done); intro _ _ _ h; (simp [cutV, HT.sIx] at h))
  | ((with_reducible refine' rd_bmL ?c ?_); (case c => lcg_src))
  | ((with_reducible refine' rd_shr ?c ?_); (case c => omega))
  | ((with_reducible refine' rd_dnew ?_); intro _ _ _ _ _)
  | ((with_reducible refine' rd_pow ?c ?_); (case c => kpc_turns))
  | ((with_reducible refine' rd_exL ?c ?_); (case c => tlg_ne))
  | ((with_reducible refine' rd_exT ?c ?_); (case c => tlg_ne))
  | ((with_reducible refine' rd_exr1 ?c ?_); (case c => kpc_turns))
  | ((with_reducible refine' rd_exr2 ?c ?_); (case c => refine ⟨?_, ?_, ?_, ?_⟩ <;> first | decide | omega))
  | ((with_reducible refine' rd_gTup ?c ?d ?_); (case c => tlg_ne); (case d => exact rfl))
  | ((with_reducible refine' rd_listL ?c ?_); (case c => tlg_ne); intro _ _ _ _ _)
  | ((with_reducible refine' rd_listT ?c ?_); (case c => tlg_ne); intro _ _ _ _ _)
  | ((with_reducible refine' rd_addL ?c ?d ?e ?_); (case c => lcg_src); (case d => lcg_src); (case e => first | (simp only [List.length_cons, List.length_nil]; decide) | (simp only [List.length_cons, List.length_nil, List.length_append, sizeLine_eq]; omega)); intro _ _ _ _ h; (try simp only [List.cons_append, List.nil_append] at h))
  | ((with_reducible refine' rd_addT ?c ?d ?f ?e ?_); (case c => lcg_src); (case d => lcg_src); (case f => (intro h; cases h)); (case e => first | (simp only [List.length_cons, List.length_nil]; decide) | (simp only [List.length_cons, List.length_nil, List.length_append, sizeLine_eq]; omega)); intro _ _ _ h; (try simp only [List.cons_append, List.nil_append] at h)))
local macro_rules | `(tactic| lcg_off) => `(tactic| repeat kpt_turns)
local macro_rules | `(tactic| kaf_pre) => `(tactic| ((with_reducible refine' rd_menu ?c ?a ?b ?_); (case c => tlg_ne); (case a => first | exact Int.emod_nonneg _ (by decide) | omega); (case b => first | exact Int.emod_lt_of_pos _ (by decide) | (simp only [List.length_cons, List.length_nil]; omega))))
local macro_rules | `(tactic| kaf_suf) => `(tactic| ((with_reducible refine' rd_pick ?c ?a ?b ?_); (case c => tlg_ne); (case a => first | exact Int.emod_nonneg _ (by decide) | omega); (case b => first | exact Int.emod_lt_of_pos _ (by decide) | (simp only [List.length_cons, List.length_nil]; omega))))
section
variable {P : Program} {w : World} {K : PySem.W.Frag} {mg : Str → Option Value} {base : Heap}
/-! ### the law's own lines, right or wrong -/
theorem fold_ge : ∀ (cs : List Nat) (a : Nat), a * 10 ^ cs.length ≤ cs.foldl (fun acc c => acc * 10 + (c - 48)) a
  | [], a => by simp
  | c :: cs, a => by
    rw [List.foldl_cons, List.length_cons]
    refine Nat.le_trans ?_ (fold_ge cs _)
    rw [Nat.pow_succ, Nat.mul_comm (10 ^ cs.length) 10, ← Nat.mul_assoc]
    exact Nat.mul_le_mul_right _ (Nat.le_add_right _ _)
theorem num_ge {z : Str} (h : figB z = true) (h0 : atI z.cps.toList 0 ≠ some 48) : 10 ^ (z.length - 1) ≤ numM z := by
  obtain ⟨h1, h2⟩ := figB_iff.mp h
  rw [len_list]
  unfold numM
  cases e : z.cps.toList with
  | nil => exact absurd e h1
  | cons c cs =>
    rw [e] at h0 h2
    have hc := h2 c List.mem_cons_self
    have : c ≠ 48 := fun z => h0 (by rw [z]; exact atI_nat (j := 0) rfl)
    have g := fold_ge cs (0 * 10 + (c - 48))
    refine Nat.le_trans ?_ g
    rw [List.length_cons, Nat.add_sub_cancel]
    refine Nat.le_trans (Nat.le_of_eq (Nat.one_mul _).symm) (Nat.mul_le_mul_right _ ?_)
    omega
theorem rf10 {least most : Int} {n : Nat} {z : Str} (hm : most < ((10 ^ n : Nat) : Int)) (hn : 1 ≤ n) (hn2 : n ≤ 10) : rfM least most n z = rfM least most 10 z := by
  unfold rfM
  by_cases c : z.length ≤ 10 ∧ figB z = true ∧ ¬ (atI z.cps.toList 0 = some 48 ∧ z ≠ Str.ofString "0") ∧ least ≤ (numM z : Int) ∧ (numM z : Int) ≤ most
  · have hl : z.length ≤ n := by
      by_cases h0 : atI z.cps.toList 0 = some 48
      · have : z = Str.ofString "0" := Decidable.byContradiction fun h => c.2.2.1 ⟨h0, h⟩
        rw [this, show (Str.ofString "0").length = 1 by decide +kernel]
        exact hn
      · have g := num_ge c.2.1 h0
        have l : numM z < 10 ^ n := by have := c.2.2.2.2; omega
        have : z.length - 1 < n := (Nat.pow_lt_pow_iff_right (by decide : 1 < 10)).mp (Nat.lt_of_le_of_lt g l)
        omega
    rw [if_pos c, if_pos ⟨hl, c.2⟩]
  · rw [if_neg c, if_neg fun h => c ⟨by omega, h.2⟩]
def kwM : Nat → Str
  | 0 => Str.ofString "fresh"
  | 1 => Str.ofString "poured"
  | _ => Str.ofString "tier"
def leM : Nat → Int
  | 1 => 0
  | _ => 1
def moM (f : Int) : Nat → Int
  | 0 => 9999999
  | 1 => 999999999
  | _ => f - 1
def numsM (f : Int) (pl : Nat) (ws : List Str) : List (Option Int) := (ws.drop 1).map (rfM (leM pl) (moM f pl) 10)
def llM (f : Int) (used : List Int) (pl : Nat) (ws : List Str) : Option (List Int) :=
  if ws.head? = some (kwM pl) ∧ none ∉ numsM f pl ws ∧ (pl < 2 → (numsM f pl ws).length = 1) ∧ (2 < pl → (numsM f pl ws).length ≤ 1) ∧ (1 < pl → (used ++ gotN (numsM f pl ws)).Nodup) then some (gotN (numsM f pl ws)) else none
def spLine : Sp := fun vs H Q _ => ∃ (pw pu : Addr) (ws : List Str) (pl : Nat) (f : Int) (used : List Int), vs = [.ref pw, .int (pl : Nat), .int f, .ref pu] ∧ H pw = some (.lst (ws.map V.str)) ∧ H pu = some (.lst (used.map V.int)) ∧ pl < 5 ∧ 1 ≤ ws.length ∧ ws.length ≤ 5002 ∧ used.length ≤ 5000 ∧ used.Nodup ∧ (∀ z ∈ ws, z.length ≤ 5000) ∧
  (llM f used pl ws = none → ∀ H', Same H H' → Q .non H') ∧ (∀ ns, llM f used pl ws = some ns → ∀ p H', H p = none → Same H H' → H' p = some (.lst (ns.map V.int)) → Q (.ref p) H')
theorem sc__law_line : FnScope ["_law_words", "_law_place", "_law_fresh", "_law_used", "_law_least", "_law_most", "_law_numbers", "_law_k"] ["_law_words", "_law_place", "_law_fresh", "_law_used"] (defScope s__law_line) := ⟨rfl, rfl, rfl, by decide +kernel, rfl, by decide +kernel, by decide +kernel⟩
theorem ok__law_line (T : Txt K mg) {f : Addr} {fd : FuncData} (N : Fn K mg "_law_line" s__law_line ["_law_words", "_law_place", "_law_fresh", "_law_used"] f fd) : FnOk P w K mg base CX0 (2) f fd ["_law_words", "_law_place", "_law_fresh", "_law_used"] (spLine) := by
  obtain ⟨_, _, N__law_number⟩ := T.f__law_number
  have G__law_number := ok__law_number (P := P) (w := w) (base := base) T N__law_number 
  refine N.fu.okB sc__law_line (fun vs H Q E h => ?_) (fun cdv A outer s H vs Q E hr h => ?_)
  · obtain ⟨pw, pu, ws, pl, f', used, rfl, _⟩ := h
    rfl
  · obtain ⟨pw, pu, ws, pl, f', used, rfl, hw, hu, hpl, hw1, hwl, hul, hun, hww, qn, qs⟩ := h
    refine ⟨_, (bss_cons (bs_if (bt_cmp (o_neD (room100 hr)) (b_ix ix_seq (bv 0) b_int (fun _ _ => rfl)) (b_ix ix_seq (b_lst (ba_c b_str (ba_c b_str (ba_c b_str (ba_c b_str (ba_c b_str ba_nil rfl) rfl) rfl) rfl) rfl)) (bv 1) (fun _ _ => rfl)) (nomark _))
      (bss_one (bs_ret b_non))
      bss_nil)
    (bss_cons (bs_set (i := 4) sc__law_line.nd rfl (by first | exact Or.inl rfl | exact Or.inr rfl) (b_ix ix_seq (b_lst (ba_c b_int (ba_c b_int (ba_c b_int (ba_c b_int (ba_c b_int ba_nil rfl) rfl) rfl) rfl) rfl)) (bv 1) (fun _ _ => rfl)))
    (bss_cons (bs_set (i := 5) sc__law_line.nd rfl (by first | exact Or.inl rfl | exact Or.inr rfl) (b_ix ix_seq (b_lst (ba_c b_int (ba_c (b_op op_sub (b_op op_pow b_int b_int) b_int) (ba_c (b_op op_sub (bv 2) b_int) (ba_c (b_op op_sub (bv 2) b_int) (ba_c (b_op op_sub (bv 2) b_int) ba_nil rfl) rfl) rfl) rfl) rfl)) (bv 1) (fun _ _ => rfl)))
    (bss_cons (bs_setlc (x := "_law_word") (ix := [4, 5]) (fv := ["_law_least", "_law_most"]) (osc := defScope s__law_line) rfl ⟨rfl, by decide +kernel, by decide +kernel, by rfl, by decide +kernel, by decide +kernel, by decide +kernel⟩ (by rfl) (bi_list (b_slice s_any (bv 0) (bo_some b_int) bo_none)) (fun _ _ _ _ => bf_nil) (fun _ _ _ _ => (b_f N__law_number G__law_number (hr.mono (by first | decide | omega)) (ba_c (bv 0) (ba_c (bv 1) (ba_c (bv 2) ba_nil rfl) rfl) rfl))) (iy := 6) sc__law_line.nd rfl (by first | exact Or.inl rfl | exact Or.inr rfl))
    (bss_cons (bs_if (bt_w (bw_or (bt_cmp op_in_seq b_non (bv 6) rfl) (bw_or1 (bt_w (bw_and (bt_cmp o_lt (bv 1) b_int (nomark _)) (bw_and1 (bt_cmp (o_neD (room100 hr)) (b_b c_len T.b_len (by kernel_rfl) (ba_c (bv 6) ba_nil rfl)) b_int (nomark _))))))))
      (bss_one (bs_ret b_non))
      bss_nil)
    (bss_cons (bs_if (bt_w (bw_and (bt_cmp op_gt (bv 1) b_int (nomark _)) (bw_and1 (bt_cmp op_gt (b_b c_len T.b_len (by kernel_rfl) (ba_c (bv 6) ba_nil rfl)) b_int (nomark _)))))
      (bss_one (bs_ret b_non))
      bss_nil)
    (bss_cons (bs_for PassesOwn.never rfl (bi_r1 T.b_range (ba_c (b_b c_len T.b_len (by kernel_rfl) (ba_c (bv 6) ba_nil rfl)) ba_nil rfl)) (bg_name (i := 7) sc__law_line.nd rfl (by first | exact Or.inl rfl | exact Or.inr rfl))
      (bss_one (bs_if (bt_w (bw_and (bt_cmp op_gt (bv 1) b_int (nomark _)) (bw_and1 (bt_cmp op_in_seq (b_ix ix_seq (bv 6) (bv 7) (fun _ _ => rfl)) (b_op o_add (bv 3) (b_slice s_any (bv 6) bo_none (bo_some (bv 7)))) rfl))))
      (bss_one (bs_ret b_non))
      bss_nil)))
    (bss_one (bs_ret (bv 6)))))))))), ?_⟩
    kas_types
    have no : ∀ H', Same H H' → ¬ (ws.head? = some (kwM pl) ∧ none ∉ numsM f' pl ws ∧ (pl < 2 → (numsM f' pl ws).length = 1) ∧ (2 < pl → (numsM f' pl ws).length ≤ 1) ∧ (1 < pl → (used ++ gotN (numsM f' pl ws)).Nodup)) → Q .non H' := fun H' s h => qn (if_neg h) H' s
    obtain ⟨w, ws', rfl⟩ : ∃ w ws', ws = w :: ws' := by
      cases ws with
      | nil => exact absurd hw1 (by decide)
      | cons w ws' => exact ⟨w, ws', rfl⟩
    lcg_off
    refine rd_ixL (SqL.of hw) (v := .str w) (atI_nat (j := 0) rfl) ?_
    lcg_off
    rename_i p1 H1 hp1 s1 g1
    refine rd_ixL (SqL.of g1) (v := .str (kwM pl)) ?_ ?_
    · match pl, hpl with
      | 0, _ => exact atI_nat (j := 0) rfl
      | 1, _ => exact atI_nat (j := 1) rfl
      | 2, _ => exact atI_nat (j := 2) rfl
      | 3, _ => exact atI_nat (j := 3) rfl
      | 4, _ => exact atI_nat (j := 4) rfl
    lcg_off
    refine ite_ndec (fun h1 => ?_) (fun h1 => ?_)
    · lcg_off
      exact no _ s1 fun h => h1 (Option.some.inj h.1)
    lcg_off
    rename_i p2 H2 hp2 s2 g2
    refine rd_ixL (SqL.of g2) (v := .int (leM pl)) ?_ ?_
    · match pl, hpl with
      | 0, _ => exact atI_nat (j := 0) rfl
      | 1, _ => exact atI_nat (j := 1) rfl
      | 2, _ => exact atI_nat (j := 2) rfl
      | 3, _ => exact atI_nat (j := 3) rfl
      | 4, _ => exact atI_nat (j := 4) rfl
    lcg_off
    rename_i p3 H3 hp3 s3 g3
    refine rd_ixL (SqL.of g3) (v := .int (moM f' pl)) ?_ ?_
    · match pl, hpl with
      | 0, _ => exact atI_nat (j := 0) rfl
      | 1, _ => exact atI_nat (j := 1) rfl
      | 2, _ => exact atI_nat (j := 2) rfl
      | 3, _ => exact atI_nat (j := 3) rfl
      | 4, _ => exact atI_nat (j := 4) rfl
    lcg_off
    have gw : H3 pw = some (.lst ((w :: ws').map V.str)) := by lcg_src
    refine rd_slL (SqL.of gw) (fun p4 H4 hp4 s4 g4 => ?_)
    rw [show cutV ((w :: ws').map V.str) (some 1) none = ws'.map V.str from by rw [show (1 : Int) = ((1 : Nat) : Int) from rfl, cutV_from _ (by rw [List.length_map, List.length_cons]; omega)]; rfl] at g4
    rw [List.length_cons] at hwl
    lcg_off
    refine lcWl (xs := ws'.map V.str) (fun i ys G => Same H4 G ∧ i ≤ ws'.length ∧ ys = optsV ((ws'.take i).map (rfM (leM pl) (moM f' pl) 10))) (by rw [List.length_map, sizeLine_eq]; omega) ⟨Same.refl _, Nat.zero_le _, rfl⟩ (fun i ys G h => ⟨SqL.of (h.1 _ _ g4), ?_⟩) (fun i v ys G hv h => ?_) (fun ys p5 G H5 h hp5 s5 g5 => ?_)
    · rw [h.2.2]
      unfold optsV
      rw [List.length_map, List.length_map, List.length_take]
      have := h.2.1
      omega
    · obtain ⟨sG, hi, rfl⟩ := h
      rw [List.getElem?_map] at hv
      cases hn : ws'[i]? with
      | none => rw [hn] at hv; cases hv
      | some z =>
        rw [hn] at hv
        obtain rfl := Option.some.inj hv
        have hz := hww z (List.mem_cons_of_mem _ (List.mem_of_getElem? hn))
        lcg_off
        refine num_use hz (fun H6 s6 => ?_)
        refine ⟨sG.trans s6, (List.getElem?_eq_some_iff.mp hn).1, ?_⟩
        rw [List.take_add_one, hn, List.map_append]
        unfold optsV
        rw [List.map_append]
        rfl
    obtain ⟨sG, _, rfl⟩ := h
    rw [List.length_map, List.take_length] at g5
    have hxs : numsM f' pl (w :: ws') = ws'.map (rfM (leM pl) (moM f' pl) 10) := rfl
    have hxl : (numsM f' pl (w :: ws')).length ≤ 5002 := by rw [hxs, List.length_map]; omega
    rw [← hxs] at g5
    have hm : llM f' used pl (w :: ws') = if none ∉ numsM f' pl (w :: ws') ∧ (pl < 2 → (numsM f' pl (w :: ws')).length = 1) ∧ (2 < pl → (numsM f' pl (w :: ws')).length ≤ 1) ∧ (1 < pl → (used ++ gotN (numsM f' pl (w :: ws'))).Nodup) then some (gotN (numsM f' pl (w :: ws'))) else none := by
      unfold llM
      by_cases hc : none ∉ numsM f' pl (w :: ws') ∧ (pl < 2 → (numsM f' pl (w :: ws')).length = 1) ∧ (2 < pl → (numsM f' pl (w :: ws')).length ≤ 1) ∧ (1 < pl → (used ++ gotN (numsM f' pl (w :: ws'))).Nodup)
      · rw [if_pos hc, if_pos ⟨by rw [h1]; rfl, hc⟩]
      · rw [if_neg hc, if_neg fun h => hc h.2]
    generalize numsM f' pl (w :: ws') = xs at *
    clear hxs
    have sA : Same H G := (((s1.trans s2).trans s3).trans s4).trans sG
    have gu : H5 pu = some (.lst (used.map V.int)) := s5 _ _ (sA _ _ hu)
    have hf5 : H p5 = none := sA.free hp5
    have sF : Same H H5 := sA.trans s5
    clear sA s5 sG s4 s3 s2 s1 hw gw
    lcg_off
    refine ⟨p5, _, rfl, .inl (SqL.of g5), rfl, optsV_flat xs, ?_⟩
    rw [inV_opts]
    lcg_off
    by_cases hx : none ∈ xs
    · rw [decide_eq_true hx]
      lcg_off
      exact no _ sF fun h => h.2.1 hx
    rw [decide_eq_false hx]
    rw [show (if false = true then !false else false) = false from rfl]
    rw [optsV_got hx] at g5
    have hgl : (gotN xs).length = xs.length := by unfold gotN; rw [List.length_map]
    have hlen : ((gotN xs).map V.int).length = xs.length := by rw [List.length_map, hgl]
    lcg_off
    refine ite_dec (fun a1 => ?_) (fun a1 => ?_)
    focus
      lcg_off
      rw [hlen]
      refine ite_ndec (fun a2 => ?_) (fun a2 => ?_)
      · lcg_off
        exact no _ sF fun h => a2 (by have := h.2.2.1 (by omega); omega)
      have hA : pl < 2 → xs.length = 1 := fun _ => by omega
    rotate_left
    focus
      have hA : pl < 2 → xs.length = 1 := fun z => by omega
    all_goals
      lcg_off
      refine ite_dec (fun b1 => ?_) (fun b1 => ?_)
      focus
        lcg_off
        rw [hlen]
        refine ite_dec (fun b2 => ?_) (fun b2 => ?_)
        · lcg_off
          exact no _ sF fun h => by have := h.2.2.2.1 (by omega); omega
        have hB : 2 < pl → xs.length ≤ 1 := fun _ => by omega
      rotate_left
      focus
        have hB : 2 < pl → xs.length ≤ 1 := fun z => by omega
      all_goals
        lcg_off
        rw [hlen, Int.toNat_natCast]
        refine forR (fun i σ G' => Same H5 G' ∧ (1 < pl → (used ++ (gotN xs).take i).Nodup) ∧ ∃ o, σ = [some (.ref pw), some (.int (pl : Nat)), some (.int f'), some (.ref pu), some (.int (leM pl)), some (.int (moM f' pl)), some (.ref p5), o]) ⟨Same.refl _, fun _ => by rw [List.take_zero, List.append_nil]; exact hun, none, rfl⟩ (fun i σ G' hi h => ?_) (fun σ G' h => ?_)
        · obtain ⟨sG', hnd, o, rfl⟩ := h
          have hig : i < (gotN xs).length := by omega
          have htk : (gotN xs).take (i + 1) = (gotN xs).take i ++ [(gotN xs)[i]] := by rw [List.take_add_one, List.getElem?_eq_getElem hig]; rfl
          lcg_off
          refine ite_dec (fun c1 => ?_) (fun c1 => ?_)
          · lcg_off
            have g5' := sG' _ _ g5
            have gu' := sG' _ _ gu
            refine rd_ixL (SqL.of g5') (v := .int (gotN xs)[i]) ?_ ?_
            · rw [show (0 : Int) + (i : Int) = ((i : Nat) : Int) by omega]
              exact atI_nat (by rw [List.getElem?_map, List.getElem?_eq_getElem hig]; rfl)
            lcg_off
            refine rd_slL (SqL.of g5') (fun p6 H6 hp6 s6 g6 => ?_)
            rw [show cutV ((gotN xs).map V.int) none (some (0 + (i : Int))) = ((gotN xs).take i).map V.int from by rw [show (0 : Int) + (i : Int) = ((i : Nat) : Int) by omega, cutV_to _ (by rw [List.length_map]; omega), List.map_take]] at g6
            lcg_off
            first | (refine rd_addL (s6 _ _ gu') g6 (by rw [List.length_map, List.length_map, List.length_take, sizeLine_eq]; omega) (fun p7 H7 hp7 s7 g7 => ?_)) | (rename_i p7 H7 hp7 s7 g7)
            rw [← List.map_append] at g7
            refine rd_inL (ns := used ++ (gotN xs).take i) (SqL.of g7) rfl ?_
            rw [inV_ints]
            have hc1 : 1 < pl := by omega
            by_cases d1 : (gotN xs)[i] ∈ used ++ (gotN xs).take i
            · rw [decide_eq_true d1, show (if false = true then !true else true) = true from rfl]
              lcg_off
              refine no _ (((sF.trans sG').trans s6).trans s7) fun h => ?_
              have e := h.2.2.2.2 hc1
              rw [← List.take_append_drop (i + 1) (gotN xs), htk, ← List.append_assoc, ← List.append_assoc] at e
              have e2 := (List.nodup_append.mp e).1
              exact (List.nodup_append.mp e2).2.2 _ d1 _ (List.mem_singleton.mpr rfl) rfl
            · rw [decide_eq_false d1, show (if false = true then !false else false) = false from rfl]
              lcg_off
              refine ⟨(sG'.trans s6).trans s7, fun _ => ?_, _, rfl⟩
              rw [htk, ← List.append_assoc, List.nodup_append]
              refine ⟨hnd hc1, by simp, fun a ha b hb => ?_⟩
              rw [List.mem_singleton.mp hb]
              exact fun z => d1 (z ▸ ha)
          · lcg_off
            exact ⟨sG', fun z => absurd z (by omega), _, rfl⟩
        · obtain ⟨sG', hnd, o, rfl⟩ := h
          rw [← hgl, List.take_length] at hnd
          lcg_off
          exact qs _ (by rw [hm]; exact if_pos ⟨hx, hA, hB, hnd⟩) _ _ hf5 (sF.trans sG') (sG' _ _ g5)
theorem line_use {H : Hp} {Q : VK} {E : XK} {pw pu : Addr} {i : Int} (ws : List Str) (pl : Nat) (f : Int) (used : List Int) (hi : i = (pl : Nat)) (h1 : H pw = some (.lst (ws.map V.str))) (h2 : H pu = some (.lst (used.map V.int))) (h3 : pl < 5) (h4 : 1 ≤ ws.length) (h5 : ws.length ≤ 5002) (h6 : used.length ≤ 5000) (h7 : used.Nodup) (h8 : ∀ z ∈ ws, z.length ≤ 5000)
    (qn : llM f used pl ws = none → ∀ H', Same H H' → Q .non H') (qs : ∀ ns, llM f used pl ws = some ns → ∀ p H', H p = none → Same H H' → H' p = some (.lst (ns.map V.int)) → Q (.ref p) H') : spLine [.ref pw, .int i, .int f, .ref pu] H Q E := ⟨pw, pu, ws, pl, f, used, by rw [hi], h1, h2, h3, h4, h5, h6, h7, h8, qn, qs⟩

end
end T53


set_option Elab.async false
set_option linter.all false
set_option maxRecDepth 100000
set_option maxHeartbeats 4000000
namespace T53
open PySem L2
local macro_rules | `(tactic| lcg_src) => `(tactic| first | with_reducible assumption | ((with_reducible refine' Same.get ?s ?e); (case s => with_reducible assumption); (case e => lcg_src)))
local macro_rules | `(tactic| lcg_sub) => `(tactic| first | with_reducible assumption | with_reducible exact Same.refl _ | ((with_reducible refine' Same.tr ?s ?e); (case s => with_reducible assumption); (case e => lcg_sub)))
local macro_rules | `(tactic| keq_rows) => `(tactic| first | with_reducible assumption | with_reducible exact Rep.int' | with_reducible exact Rep.str' | with_reducible exact Rep.bl' | with_reducible exact Rep.non' | ((with_reducible refine' Rep.same ?s ?e); (case s => with_reducible assumption); (case e => keq_rows)) | ((with_reducible refine' Rep.mkT ?c ?_); (case c => lcg_src); keq_hits) | ((with_reducible refine' Rep.mkL ?c ?_); (case c => lcg_src); keq_hits) | ((with_reducible refine' Rep.mkD ?c); (case c => lcg_src)))
local macro_rules | `(tactic| keq_hits) => `(tactic| first | with_reducible assumption | with_reducible exact Reps.nil' | ((with_reducible refine' Reps.cons' ?c ?_); (case c => keq_rows); keq_hits) | ((with_reducible refine' Reps.same ?s ?e); (case s => with_reducible assumption); (case e => keq_hits)))
local macro_rules | `(tactic| tlg_ne) => `(tactic| first | with_reducible assumption | ((with_reducible refine' SqL.of ?c); (case c => lcg_src)) | ((with_reducible refine' SqT.of ?c); (case c => lcg_src)) | ((with_reducible refine' SqL.same ?s ?e); (case s => with_reducible assumption); (case e => tlg_ne)))
local macro_rules | `(tactic| kpc_turns) => `(tactic| first | decide | omega | (constructor <;> first | decide | omega))
local macro_rules | `(tactic| kas_types) => `(tactic| simp only [cxK, cxK', compK, triedK, heldXK, start_cc, start_cn, start_nn])
local macro_rules | `(tactic| kpt_turns) => `(tactic| first
  | refine rd_go ?_
  | ((with_reducible refine' rd_mod ?c ?_); (case c => kpc_turns))
  | ((with_reducible refine' rd_fdiv ?c ?_); (case c => kpc_turns))
  | ((with_reducible refine' rd_mulI ?c ?_); (case c => first | exact .inl (by kpc_turns) | exact .inr (by kpc_turns)))
  | ((with_reducible refine' rd_mkT ?c ?_); (case c => (simp only [List.length_cons, List.length_nil]; decide)); intro _ _ _ _)
  | ((with_reducible refine' rd_mkL ?c ?_); (case c => (simp only [List.length_cons, List.length_nil]; decide)); intro _ _ _ _ _)
  | ((with_reducible refine' rd_ixT ?c ?d ?_); (case c => tlg_ne); (case d => exact rfl))
  | ((with_reducible refine' rd_ixL ?c ?d ?_); (case c => tlg_ne); (case d => exact rfl))
  | ((with_reducible refine' rd_isT ?c ?_); (case c => lcg_src))
  | ((with_reducible refine' rd_isL ?c ?_); (case c => lcg_src))
  | ((with_reducible refine' rd_isD ?c ?_); (case c => lcg_src))
  | ((with_reducible refine' rd_lenT ?c ?_); (case c => tlg_ne))
  | ((with_reducible refine' rd_lenL ?c ?_); (case c => tlg_ne))
  | ((with_reducible refine' rd_lenS ?c ?_); (case c => first | assumption | (show _ ≤ 16777216; decide) | omega))
  | ((with_reducible refine' rd_slT ?c ?d ?_); (case c => tlg_ne); (case d => simp [HT.sIx]; done); intro _ _ _ h; (simp [cutV, HT.sIx] at h))
  | ((with_reducible refine' rd_bmL ?c ?_); (case c => lcg_src))
  | ((with_reducible refine' rd_shr ?c ?_); (case c => omega))
  | ((with_reducible refine' rd_dnew ?_); intro _ _ _ _ _)
  | ((with_reducible refine' rd_pow ?c ?_); (case c => kpc_turns))
  | ((with_reducible refine' rd_exL ?c ?_); (case c => tlg_ne))
  | ((with_reducible refine' rd_exT ?c ?_); (case c => tlg_ne))
  | ((with_reducible refine' rd_exr1 ?c ?_); (case c => kpc_turns))
  | ((with_reducible refine' rd_exr2 ?c ?_); (case c => refine ⟨?_, ?_, ?_, ?_⟩ <;> first | decide | omega))
  | ((with_reducible refine' rd_gTup ?c ?d ?_); (case c => tlg_ne); (case d => exact rfl))
  | ((with_reducible refine' rd_listL ?c ?_); (case c => tlg_ne); intro _ _ _ _ _)
  | ((with_reducible refine' rd_listT ?c ?_); (case c => tlg_ne); intro _ _ _ _ _)
  | ((with_reducible refine' rd_addL ?c ?d ?e ?_); (case c => lcg_src); (case d => lcg_src); (case e => first | (simp only [List.length_cons, List.length_nil]; decide) | (simp only [List.length_cons, List.length_nil, List.length_append, sizeLine_eq]; omega)); intro _ _ _ _ h; (try simp only [List.cons_append, List.nil_append] at h))
  | ((with_reducible refine' rd_addT ?c ?d ?f ?e ?_); (case c => lcg_src); (case d => lcg_src); (case f => (intro h; cases h)); (case e => first | (simp only [List.length_cons, List.length_nil]; decide) | (simp only [List.length_cons, List.length_nil, List.length_append, sizeLine_eq]; omega)); intro _ _ _ h; (try simp only [List.cons_append, List.nil_append] at h)))
local macro_rules | `(tactic| lcg_off) => `(tactic| repeat kpt_turns)
local macro_rules | `(tactic| kaf_pre) => `(tactic| ((with_reducible refine' rd_menu ?c ?a ?b ?_); (case c => tlg_ne); (case a => first | exact Int.emod_nonneg _ (by decide) | omega); (case b => first | exact Int.emod_lt_of_pos _ (by decide) | (simp only [List.length_cons, List.length_nil]; omega))))
local macro_rules | `(tactic| kaf_suf) => `(tactic| ((with_reducible refine' rd_pick ?c ?a ?b ?_); (case c => tlg_ne); (case a => first | exact Int.emod_nonneg _ (by decide) | omega); (case b => first | exact Int.emod_lt_of_pos _ (by decide) | (simp only [List.length_cons, List.length_nil]; omega))))
section
variable {P : Program} {w : World} {K : PySem.W.Frag} {mg : Str → Option Value} {base : Heap}
/-! ### the law's lines are the program's -/
theorem numT_pos (n : Nat) : 1 ≤ (numT n).length := by
  rw [len_list]
  exact List.length_pos_iff.mpr (numT_ne n)
theorem tnum10 {f : Nat} (h1 : 1 ≤ f) (h : f ≤ 9999999) (z : Str) : tnum f z = rfM 1 ((f : Int) - 1) 10 z := by
  unfold tnum
  have l7 := numT_l7 (n := f - 1) (by omega)
  have hp := numT_pos (f - 1)
  have hlt := numT_lt (n := f - 1) (Nat.lt_of_le_of_lt (show f - 1 ≤ 9999999 by omega) (by decide))
  have e : Str.ofString (toString ((f - 1 : Nat) : Int)) = numT (f - 1) := rfl
  rw [e, rf10 (by omega) hp (by omega), show ((f - 1 : Nat) : Int) = (f : Int) - 1 by omega]
theorem ll_tier {row : Str} {f i : Nat} {used : List Int} (h1 : 1 ≤ f) (h : f ≤ 9999999) : llM (f : Nat) used (i + 2) (wordsT row) = (rtM row f).bind fun ns => if (used ++ ns).Nodup ∧ (i = 0 ∨ ns.length ≤ 1) then some ns else none := by
  have e : numsM (f : Nat) (i + 2) (wordsT row) = ((wordsT row).drop 1).map (tnum f) := by
    unfold numsM
    refine List.map_congr_left fun z _ => ?_
    rw [tnum10 h1 h]
    rfl
  unfold llM rtM
  rw [e]
  have hk : kwM (i + 2) = Str.ofString "tier" := rfl
  rw [hk]
  generalize ((wordsT row).drop 1).map (tnum f) = xs
  have hgl : (gotN xs).length = xs.length := by unfold gotN; rw [List.length_map]
  by_cases hA : (wordsT row).head? = some (Str.ofString "tier") ∧ none ∉ xs
  · rw [if_pos hA]
    show _ = if (used ++ gotN xs).Nodup ∧ (i = 0 ∨ (gotN xs).length ≤ 1) then some (gotN xs) else none
    rw [hgl]
    by_cases hB : (used ++ gotN xs).Nodup ∧ (i = 0 ∨ xs.length ≤ 1)
    · rw [if_pos hB, if_pos ⟨hA.1, hA.2, fun z => absurd z (by omega), fun z => hB.2.resolve_left (by omega), fun _ => hB.1⟩]
    · rw [if_neg hB, if_neg fun z => hB ⟨z.2.2.2.2 (by omega), ?_⟩]
      by_cases hi : i = 0
      · exact .inl hi
      · exact .inr (z.2.2.2.1 (by omega))
  · rw [if_neg hA, if_neg fun z => hA ⟨z.1, z.2.1⟩]
    rfl
theorem words_two {row kw : Str} {xs : List (Option Int)} (h1 : (wordsT row).head? = some kw) (h2 : ((wordsT row).drop 1).length = 1) : ∃ w : Str, wordsT row = [kw, w] ∧ 32 ∉ w.cps.toList ∧ row.cps.toList = kw.cps.toList ++ 32 :: w.cps.toList := by
  have hg := split_glue row 32
  have hf := StrLaws.split_free row 32
  rw [← bl_str] at hg hf
  rw [show Txt.split row (Str.ofString " ") = wordsT row from rfl] at hg hf
  match hw : wordsT row, h1, h2 with
  | [a, w], h1, _ =>
    obtain rfl := Option.some.inj h1
    rw [hw] at hg hf
    exact ⟨w, rfl, hf w (by simp), hg.symm⟩
theorem ll_num {row kw ah : Str} {pl most : Nat} (hp : pl < 2) (hk : kwM pl = kw) (hah : ah.cps.toList = kw.cps.toList ++ [32]) (hkf : 32 ∉ kw.cps.toList) (hmo : moM 0 pl = (most : Nat)) (hL : most < 10 ^ (numT most).length) (hL2 : (numT most).length ≤ 10) :
    llM 0 [] pl (wordsT row) = (rnM row ah (leM pl) most).map fun n => [n] := by
  have hcond : ∀ w, wordsT row = [kw, w] → llM 0 [] pl (wordsT row) = (rfM (leM pl) (most : Nat) 10 w).map fun n => [n] := fun w hw => by
    unfold llM
    have e : numsM 0 pl (wordsT row) = [rfM (leM pl) (most : Nat) 10 w] := by unfold numsM; rw [hw, hmo]; rfl
    rw [e, hk]
    cases hr : rfM (leM pl) (most : Nat) 10 w with
    | none => rw [if_neg fun z => z.2.1 (by simp)]; rfl
    | some n => rw [if_pos ⟨by rw [hw]; rfl, by simp, fun _ => rfl, fun z => absurd z (by omega), fun z => absurd z (by omega)⟩]; rfl
  have hno : (∀ w, wordsT row ≠ [kw, w]) → llM 0 [] pl (wordsT row) = none := fun h => by
    unfold llM
    refine if_neg fun z => ?_
    have z2 := z.2.2.1 hp
    unfold numsM at z2
    rw [List.length_map] at z2
    obtain ⟨w, hw, _⟩ := words_two (xs := []) (by rw [z.1, hk]) z2
    exact h w hw
  have hrf : ∀ w, rfM (leM pl) (most : Nat) (numT most).length w = rfM (leM pl) (most : Nat) 10 w := fun w => rf10 (by omega) (numT_pos most) hL2
  unfold rnM
  by_cases hs : Txt.startswith row ah = true
  · rw [if_pos hs]
    obtain ⟨ys, hys⟩ := (starts_iff row ah).mp hs
    have hal : ah.length ≤ row.length := by
      rw [len_list, len_list, ← hys, List.length_append]
      omega
    have hsl : Txt.slice row (some (ah.length : Nat)) none = ⟨ys.toArray⟩ := str_ext (by
      rw [slice_from (by omega) (by omega), ← hys, Int.toNat_natCast, len_list, List.drop_left])
    rw [hsl, show Str.ofString (toString (most : Int)) = numT most from rfl, hrf]
    by_cases hb : 32 ∈ ys
    · have hrow : ∀ w, wordsT row ≠ [kw, w] := fun w hw => by
        have hg := split_glue row 32
        have hf := StrLaws.split_free row 32 w
        rw [← bl_str] at hg hf
        rw [show Txt.split row (Str.ofString " ") = wordsT row from rfl, hw] at hg hf
        have hg' : kw.cps.toList ++ 32 :: w.cps.toList = row.cps.toList := hg
        rw [← hys, hah, List.append_assoc] at hg'
        have := List.append_cancel_left hg'
        have e : w.cps.toList = ys := (List.cons.inj this).2
        exact hf (by simp) (e ▸ hb)
      rw [hno hrow]
      have : rfM (leM pl) (most : Nat) 10 ⟨ys.toArray⟩ = none := if_neg fun z => by
        have := (figB_iff.mp z.2.1).2 32 (by simpa using hb)
        omega
      rw [this]
      rfl
    · refine hcond _ ?_
      unfold wordsT
      rw [bl_str]
      refine split_eq (by simp) (fun z hz => ?_) ?_
      · rcases List.mem_cons.mp hz with rfl | hz
        · exact hkf
        · rw [List.mem_singleton.mp hz]; simpa using hb
      · rw [← hys, hah, List.append_assoc]
        rfl
  · rw [if_neg hs]
    refine hno fun w hw => hs ?_
    have hg := split_glue row 32
    rw [← bl_str] at hg
    rw [show Txt.split row (Str.ofString " ") = wordsT row from rfl, hw] at hg
    have hg' : kw.cps.toList ++ 32 :: w.cps.toList = row.cps.toList := hg
    refine (starts_iff row ah).mpr ⟨w.cps.toList, ?_⟩
    rw [hah, List.append_assoc]
    exact hg'
theorem ll_fresh (row : Str) : llM 0 [] 0 (wordsT row) = (rnM row (Str.ofString "fresh ") 1 9999999).map fun n => [n] :=
  ll_num (kw := Str.ofString "fresh") (by decide) rfl (by decide +kernel) (by decide +kernel) rfl (numT_lt (by decide)) (Nat.le_trans (numT_l7 (by decide)) (by decide))
theorem ll_poured (row : Str) : llM 0 [] 1 (wordsT row) = (rnM row (Str.ofString "poured ") 0 999999999).map fun n => [n] :=
  ll_num (kw := Str.ofString "poured") (by decide) rfl (by decide +kernel) (by decide +kernel) rfl (numT_lt (by decide)) (Nat.le_trans (numT_l9 (by decide)) (by decide))

end
end T53


set_option Elab.async false
set_option linter.all false
set_option maxRecDepth 100000
set_option maxHeartbeats 4000000
namespace T53
open PySem L2
local macro_rules | `(tactic| lcg_src) => `(tactic| first | with_reducible assumption | ((with_reducible refine' Same.get ?s ?e); (case s => with_reducible assumption); (case e => lcg_src)))
local macro_rules | `(tactic| lcg_sub) => `(tactic| first | with_reducible assumption | with_reducible exact Same.refl _ | ((with_reducible refine' Same.tr ?s ?e); (case s => with_reducible assumption); (case e => lcg_sub)))
local macro_rules | `(tactic| keq_rows) => `(tactic| first | with_reducible assumption | with_reducible exact Rep.int' | with_reducible exact Rep.str' | with_reducible exact Rep.bl' | with_reducible exact Rep.non' | ((with_reducible refine' Rep.same ?s ?e); (case s => with_reducible assumption); (case e => keq_rows)) | ((with_reducible refine' Rep.mkT ?c ?_); (case c => lcg_src); keq_hits) | ((with_reducible refine' Rep.mkL ?c ?_); (case c => lcg_src); keq_hits) | ((with_reducible refine' Rep.mkD ?c); (case c => lcg_src)))
local macro_rules | `(tactic| keq_hits) => `(tactic| first | with_reducible assumption | with_reducible exact Reps.nil' | ((with_reducible refine' Reps.cons' ?c ?_); (case c => keq_rows); keq_hits) | ((with_reducible refine' Reps.same ?s ?e); (case s => with_reducible assumption); (case e => keq_hits)))
local macro_rules | `(tactic| tlg_ne) => `(tactic| first | with_reducible assumption | ((with_reducible refine' SqL.of ?c); (case c => lcg_src)) | ((with_reducible refine' SqT.of ?c); (case c => lcg_src)) | ((with_reducible refine' SqL.same ?s ?e); (case s => with_reducible assumption); (case e => tlg_ne)))
local macro_rules | `(tactic| kpc_turns) => `(tactic| first | decide | omega | (constructor <;> first | decide | omega))
local macro_rules | `(tactic| kas_types) => `(tactic| simp only [cxK, cxK', compK, triedK, heldXK, start_cc, start_cn, start_nn])
local macro_rules | `(tactic| kpt_turns) => `(tactic| first
  | refine rd_go ?_
  | ((with_reducible refine' rd_mod ?c ?_); (case c => kpc_turns))
  | ((with_reducible refine' rd_fdiv ?c ?_); (case c => kpc_turns))
  | ((with_reducible refine' rd_mulI ?c ?_); (case c => first | exact .inl (by kpc_turns) | exact .inr (by kpc_turns)))
  | ((with_reducible refine' rd_mkT ?c ?_); (case c => (simp only [List.length_cons, List.length_nil]; decide)); intro _ _ _ _)
  | ((with_reducible refine' rd_mkL ?c ?_); (case c => (simp only [List.length_cons, List.length_nil]; decide)); intro _ _ _ _ _)
  | ((with_reducible refine' rd_ixT ?c ?d ?_); (case c => tlg_ne); (case d => exact rfl))
  | ((with_reducible refine' rd_ixL ?c ?d ?_); (case c => tlg_ne); (case d => exact rfl))
  | ((with_reducible refine' rd_isT ?c ?_); (case c => lcg_src))
  | ((with_reducible refine' rd_isL ?c ?_); (case c => lcg_src))
  | ((with_reducible refine' rd_isD ?c ?_); (case c => lcg_src))
  | ((with_reducible refine' rd_lenT ?c ?_); (case c => tlg_ne))
  | ((with_reducible refine' rd_lenL ?c ?_); (case c => tlg_ne))
  | ((with_reducible refine' rd_lenS ?c ?_); (case c => first | assumption | (show _ ≤ 16777216; decide) | omega))
  | ((with_reducible refine' rd_slT ?c ?d ?_); (case c => tlg_ne); (case d => simp [HT.sIx]; done); intro _ _ _ h; (simp [cutV, HT.sIx] at h))
  | ((with_reducible refine' rd_bmL ?c ?_); (case c => lcg_src))
  | ((with_reducible refine' rd_shr ?c ?_); (case c => omega))
  | ((with_reducible refine' rd_dnew ?_); intro _ _ _ _ _)
  | ((with_reducible refine' rd_pow ?c ?_); (case c => kpc_turns))
  | ((with_reducible refine' rd_exL ?c ?_); (case c => tlg_ne))
  | ((with_reducible refine' rd_exT ?c ?_); (case c => tlg_ne))
  | ((with_reducible refine' rd_exr1 ?c ?_); (case c => kpc_turns))
  | ((with_reducible refine' rd_exr2 ?c ?_); (case c => refine ⟨?_, ?_, ?_, ?_⟩ <;> first | decide | omega))
  | ((with_reducible refine' rd_gTup ?c ?d ?_); (case c => tlg_ne); (case d => exact rfl))
  | ((with_reducible refine' rd_listL ?c ?_); (case c => tlg_ne); intro _ _ _ _ _)
  | ((with_reducible refine' rd_listT ?c ?_); (case c => tlg_ne); intro _ _ _ _ _)
  | ((with_reducible refine' rd_addL ?c ?d ?e ?_); (case c => lcg_src); (case d => lcg_src); (case e => first | (simp only [List.length_cons, List.length_nil]; decide) | (simp only [List.length_cons, List.length_nil, List.length_append, sizeLine_eq]; omega)); intro _ _ _ _ h; (try simp only [List.cons_append, List.nil_append] at h))
  | ((with_reducible refine' rd_addT ?c ?d ?f ?e ?_); (case c => lcg_src); (case d => lcg_src); (case f => (intro h; cases h)); (case e => first | (simp only [List.length_cons, List.length_nil]; decide) | (simp only [List.length_cons, List.length_nil, List.length_append, sizeLine_eq]; omega)); intro _ _ _ h; (try simp only [List.cons_append, List.nil_append] at h)))
local macro_rules | `(tactic| lcg_off) => `(tactic| repeat kpt_turns)
local macro_rules | `(tactic| kaf_pre) => `(tactic| ((with_reducible refine' rd_menu ?c ?a ?b ?_); (case c => tlg_ne); (case a => first | exact Int.emod_nonneg _ (by decide) | omega); (case b => first | exact Int.emod_lt_of_pos _ (by decide) | (simp only [List.length_cons, List.length_nil]; omega))))
local macro_rules | `(tactic| kaf_suf) => `(tactic| ((with_reducible refine' rd_pick ?c ?a ?b ?_); (case c => tlg_ne); (case a => first | exact Int.emod_nonneg _ (by decide) | omega); (case b => first | exact Int.emod_lt_of_pos _ (by decide) | (simp only [List.length_cons, List.length_nil]; omega))))
section
variable {P : Program} {w : World} {K : PySem.W.Frag} {mg : Str → Option Value} {base : Heap}
/-! ### rows read -/
theorem nl_list : (Str.ofString "\n").cps.toList = [10] := by decide +kernel
theorem rowsS_ends : ∀ zs : List Str, (rowsS zs).cps.toList = endsL 10 (zs.map fun z => z.cps.toList)
  | [] => rfl
  | z :: zs => by
    show (z ++ Str.ofString "\n" ++ rowsS zs).cps.toList = z.cps.toList ++ 10 :: endsL 10 (zs.map fun z => z.cps.toList)
    rw [app_list, app_list, nl_list, rowsS_ends zs, List.append_assoc]
    rfl
theorem rowsS_split {zs : List Str} (h : ∀ z ∈ zs, 10 ∉ z.cps.toList) : Txt.split (rowsS zs) (Str.ofString "\n") = zs ++ [Str.ofString ""] := by
  rw [show Str.ofString "\n" = ⟨#[10]⟩ by decide +kernel]
  exact split_ends h (rowsS_ends zs)

/-! ### what the law's reader has found so far -/
def freshOf (fs : List (List Int)) : Int := (fs.headD []).headD 0
def frAt (fs : List (List Int)) (j : Nat) : Int := if 1 < j then freshOf fs else 0
def PreD (zs : List Str) (fs : List (List Int)) : Prop := ∀ j ns, fs[j]? = some ns → llM (frAt fs j) ((fs.take j).drop 2).flatten j (wordsT (rowAtM zs j)) = some ns
theorem map_one {o : Option Int} {a : List Int} (h : o.map (fun n => [n]) = some a) : ∃ n, o = some n ∧ a = [n] := by
  cases o with
  | none => cases h
  | some n => exact ⟨n, rfl, (Option.some.inj h).symm⟩
theorem map_non {o : Option Int} (h : o.map (fun n => [n]) = none) : o = none := by
  cases o with
  | none => rfl
  | some n => cases h
theorem pre_one {zs : List Str} {a : List Int} {r : List (List Int)} (p : PreD zs (a :: r)) : ∃ f : Nat, a = [(f : Int)] ∧ 1 ≤ f ∧ f ≤ 9999999 ∧ rnM (rowAtM zs 0) (Str.ofString "fresh ") 1 9999999 = some (f : Int) := by
  have h : llM 0 [] 0 (wordsT (rowAtM zs 0)) = some a := p 0 a rfl
  rw [ll_fresh] at h
  obtain ⟨n, hn, rfl⟩ := map_one h
  obtain ⟨l, u⟩ := rn_range hn
  exact ⟨n.toNat, by rw [Int.toNat_of_nonneg (by omega)], by omega, by omega, by rw [hn, Int.toNat_of_nonneg (by omega)]⟩
theorem pre_two {zs : List Str} {a b : List Int} {r : List (List Int)} (p : PreD zs (a :: b :: r)) : ∃ n : Int, b = [n] ∧ rnM (rowAtM zs 1) (Str.ofString "poured ") 0 999999999 = some n := by
  have h : llM 0 [] 1 (wordsT (rowAtM zs 1)) = some b := p 1 b rfl
  rw [ll_poured] at h
  obtain ⟨n, hn, rfl⟩ := map_one h
  exact ⟨n, rfl, hn⟩
theorem ll_line {zs : List Str} {f i : Nat} {used : List Int} (h1 : 1 ≤ f) (h : f ≤ 9999999) : llM (f : Nat) used (i + 2) (wordsT (rowAtM zs (i + 2))) = lineM zs f used i := by
  rw [ll_tier h1 h]
  rfl
theorem pre_good {zs : List Str} {f : Nat} {b : List Int} {r : List (List Int)} (p : PreD zs ([(f : Int)] :: b :: r)) (h1 : 1 ≤ f) (h : f ≤ 9999999) : GoodT zs f r := by
  intro j ns hj
  have e := p (j + 2) ns (by rw [List.getElem?_cons_succ, List.getElem?_cons_succ]; exact hj)
  rw [show frAt ([(f : Int)] :: b :: r) (j + 2) = (f : Int) from if_pos (by omega), ll_line h1 h] at e
  exact e
theorem due_bad {x : Str} {fs : List (List Int)} (hl : fs.length < 5) (p : PreD (rowsM x) fs) (hn : llM (frAt fs fs.length) (fs.drop 2).flatten fs.length (wordsT (rowAtM (rowsM x) fs.length)) = none) : tiersM x = .inl (fs.length + 1) := by
  match fs, hl, p, hn with
  | [], _, _, hn =>
    have h : llM 0 [] 0 (wordsT (rowAtM (rowsM x) 0)) = none := hn
    rw [ll_fresh] at h
    unfold tiersM
    rw [map_non h]
    rfl
  | [a], _, p, hn =>
    obtain ⟨f, rfl, h1, h2, hf⟩ := pre_one p
    have h : llM 0 [] 1 (wordsT (rowAtM (rowsM x) 1)) = none := hn
    rw [ll_poured] at h
    unfold tiersM
    rw [hf]; dsimp only
    rw [map_non h]
    rfl
  | a :: b :: r, hl, p, hn =>
    obtain ⟨f, rfl, h1, h2, hf⟩ := pre_one p
    obtain ⟨n, rfl, hd⟩ := pre_two p
    have hg := pre_good p h1 h2
    have h : llM (f : Nat) r.flatten (r.length + 2) (wordsT (rowAtM (rowsM x) (r.length + 2))) = none := by
      have e : frAt ([(f : Int)] :: [n] :: r) ([(f : Int)] :: [n] :: r).length = (f : Int) := if_pos (by simp only [List.length_cons]; omega)
      rw [e] at hn
      exact hn
    rw [ll_line h1 h2] at h
    simp only [List.length_cons] at hl
    unfold tiersM
    rw [hf]; dsimp only
    rw [hd]; dsimp only
    rw [Int.toNat_natCast, ra_bad (by omega) hg h]
    rfl
theorem due_good {x : Str} {a b : List Int} {r : List (List Int)} (hl : r.length = 3) (p : PreD (rowsM x) (a :: b :: r)) : ∃ f n : Int, a = [f] ∧ b = [n] ∧ 5 ≤ (rowsM x).length ∧ tiersM x = if x = rowsS ((rowsM x).take 5) then .inr (f, n, r) else .inl 6 := by
  obtain ⟨f, rfl, h1, h2, hf⟩ := pre_one p
  obtain ⟨n, rfl, hd⟩ := pre_two p
  have hg := pre_good p h1 h2
  refine ⟨f, n, rfl, rfl, good_there hl hg, ?_⟩
  unfold tiersM
  rw [hf]; dsimp only
  rw [hd]; dsimp only
  rw [Int.toNat_natCast, ra_good hl hg]
theorem ll_gone {zs : List Str} {j : Nat} (hj : zs.length ≤ j) (hj5 : j < 5) (f : Int) (used : List Int) : llM f used j (wordsT (rowAtM zs j)) = none := by
  have e : rowAtM zs j = Str.ofString "" := by
    unfold rowAtM
    rw [List.getD_eq_getElem?_getD, List.getElem?_eq_none hj]
    rfl
  rw [e]
  refine if_neg fun z => ?_
  have h : (wordsT (Str.ofString "")).head? = some (Str.ofString "") := by decide +kernel
  rw [h] at z
  have k := Option.some.inj z.1
  match j, hj5 with
  | 0, _ => exact absurd k (by decide +kernel)
  | 1, _ => exact absurd k (by decide +kernel)
  | 2, _ => exact absurd k (by decide +kernel)
  | 3, _ => exact absurd k (by decide +kernel)
  | 4, _ => exact absurd k (by decide +kernel)
/-! ### nothing behind the fifth row -/
theorem rows_split (x : Str) : ∃ y, Txt.split x (Str.ofString "\n") = rowsM x ++ [y] := by
  have h1 := splitN_pos x (Str.ofString "\n")
  have hne : Txt.split x (Str.ofString "\n") ≠ [] := fun e => by rw [e] at h1; exact absurd h1 (by decide)
  exact ⟨_, (List.dropLast_concat_getLast hne).symm⟩
theorem five_iff {x y : Str} (hy : Txt.split x (Str.ofString "\n") = rowsM x ++ [y]) (h5 : 5 ≤ (rowsM x).length) : x = rowsS ((rowsM x).take 5) ↔ ((rowsM x).length = 5 ∧ y = Str.ofString "") := by
  have hf : ∀ z ∈ rowsM x, 10 ∉ z.cps.toList := fun z hz => by
    have := StrLaws.split_free x 10 z
    rw [← nl_str, hy] at this
    exact this (List.mem_append_left _ hz)
  constructor
  · intro h
    have e := rowsS_split (zs := (rowsM x).take 5) (fun z hz => hf z (List.mem_of_mem_take hz))
    rw [← h, hy] at e
    have hl := congrArg List.length e
    rw [List.length_append, List.length_append, List.length_take, List.length_cons, List.length_nil, List.length_cons, List.length_nil] at hl
    have h55 : (rowsM x).length = 5 := by omega
    refine ⟨h55, ?_⟩
    rw [List.take_of_length_le (by omega)] at e
    exact List.cons.inj (List.append_cancel_left e) |>.1
  · rintro ⟨h1, rfl⟩
    rw [List.take_of_length_le (by omega)]
    refine str_ext ?_
    rw [rowsS_ends, ← glue_ends, ← split_glue x 10, ← nl_str, hy, List.map_append]
    rfl

end
end T53


set_option Elab.async false
set_option linter.all false
set_option maxRecDepth 100000
set_option maxHeartbeats 4000000
namespace T53
open PySem L2
local macro_rules | `(tactic| lcg_src) => `(tactic| first | with_reducible assumption | ((with_reducible refine' Same.get ?s ?e); (case s => with_reducible assumption); (case e => lcg_src)))
local macro_rules | `(tactic| lcg_sub) => `(tactic| first | with_reducible assumption | with_reducible exact Same.refl _ | ((with_reducible refine' Same.tr ?s ?e); (case s => with_reducible assumption); (case e => lcg_sub)))
local macro_rules | `(tactic| keq_rows) => `(tactic| first | with_reducible assumption | with_reducible exact Rep.int' | with_reducible exact Rep.str' | with_reducible exact Rep.bl' | with_reducible exact Rep.non' | ((with_reducible refine' Rep.same ?s ?e); (case s => with_reducible assumption); (case e => keq_rows)) | ((with_reducible refine' Rep.mkT ?c ?_); (case c => lcg_src); keq_hits) | ((with_reducible refine' Rep.mkL ?c ?_); (case c => lcg_src); keq_hits) | ((with_reducible refine' Rep.mkD ?c); (case c => lcg_src)))
local macro_rules | `(tactic| keq_hits) => `(tactic| first | with_reducible assumption | with_reducible exact Reps.nil' | ((with_reducible refine' Reps.cons' ?c ?_); (case c => keq_rows); keq_hits) | ((with_reducible refine' Reps.same ?s ?e); (case s => with_reducible assumption); (case e => keq_hits)))
local macro_rules | `(tactic| tlg_ne) => `(tactic| first | with_reducible assumption | ((with_reducible refine' SqL.of ?c); (case c => lcg_src)) | ((with_reducible refine' SqT.of ?c); (case c => lcg_src)) | ((with_reducible refine' SqL.same ?s ?e); (case s => with_reducible assumption); (case e => tlg_ne)))
local macro_rules | `(tactic| kpc_turns) => `(tactic| first | decide | omega | (constructor <;> first | decide | omega))
local macro_rules | `(tactic| kas_types) => `(tactic| simp only [cxK, cxK', compK, triedK, heldXK, start_cc, start_cn, start_nn])
local macro_rules | `(tactic| kpt_turns) => `(tactic| first
  | refine rd_go ?_
  | ((with_reducible refine' rd_mod ?c ?_); (case c => kpc_turns))
  | ((with_reducible refine' rd_fdiv ?c ?_); (case c => kpc_turns))
  | ((with_reducible refine' rd_mulI ?c ?_); (case c => first | exact .inl (by kpc_turns) | exact .inr (by kpc_turns)))
  | ((with_reducible refine' rd_mkT ?c ?_); (case c => (simp only [List.length_cons, List.length_nil]; decide)); intro _ _ _ _)
  | ((with_reducible refine' rd_mkL ?c ?_); (case c => (simp only [List.length_cons, List.length_nil]; decide)); intro _ _ _ _ _)
  | ((with_reducible refine' rd_ixT ?c ?d ?_); (case c => tlg_ne); (case d => exact rfl))
  | ((with_reducible refine' rd_ixL ?c ?d ?_); (case c => tlg_ne); (case d => exact rfl))
  | ((with_reducible refine' rd_isT ?c ?_); (case c => lcg_src))
  | ((with_reducible refine' rd_isL ?c ?_); (case c => lcg_src))
  | ((with_reducible refine' rd_isD ?c ?_); (case c => lcg_src))
  | ((with_reducible refine' rd_lenT ?c ?_); (case c => tlg_ne))
  | ((with_reducible refine' rd_lenL ?c ?_); (case c => tlg_ne))
  | ((with_reducible refine' rd_lenS ?c ?_); (case c => first | assumption | (show _ ≤ 16777216; decide) | omega))
  | ((with_reducible refine' rd_slT ?c ?d ?_); (case c => tlg_ne); (case d => simp [HT.sIx]; done); intro _ _ _ h; (simp [cutV, HT.sIx] at h))
  | ((with_reducible refine' rd_bmL ?c ?_); (case c => lcg_src))
  | ((with_reducible refine' rd_shr ?c ?_); (case c => omega))
  | ((with_reducible refine' rd_dnew ?_); intro _ _ _ _ _)
  | ((with_reducible refine' rd_pow ?c ?_); (case c => kpc_turns))
  | ((with_reducible refine' rd_exL ?c ?_); (case c => tlg_ne))
  | ((with_reducible refine' rd_exT ?c ?_); (case c => tlg_ne))
  | ((with_reducible refine' rd_exr1 ?c ?_); (case c => kpc_turns))
  | ((with_reducible refine' rd_exr2 ?c ?_); (case c => refine ⟨?_, ?_, ?_, ?_⟩ <;> first | decide | omega))
  | ((with_reducible refine' rd_gTup ?c ?d ?_); (case c => tlg_ne); (case d => exact rfl))
  | ((with_reducible refine' rd_listL ?c ?_); (case c => tlg_ne); intro _ _ _ _ _)
  | ((with_reducible refine' rd_listT ?c ?_); (case c => tlg_ne); intro _ _ _ _ _)
  | ((with_reducible refine' rd_addL ?c ?d ?e ?_); (case c => lcg_src); (case d => lcg_src); (case e => first | (simp only [List.length_cons, List.length_nil]; decide) | (simp only [List.length_cons, List.length_nil, List.length_append, sizeLine_eq]; omega)); intro _ _ _ _ h; (try simp only [List.cons_append, List.nil_append] at h))
  | ((with_reducible refine' rd_addT ?c ?d ?f ?e ?_); (case c => lcg_src); (case d => lcg_src); (case f => (intro h; cases h)); (case e => first | (simp only [List.length_cons, List.length_nil]; decide) | (simp only [List.length_cons, List.length_nil, List.length_append, sizeLine_eq]; omega)); intro _ _ _ h; (try simp only [List.cons_append, List.nil_append] at h)))
local macro_rules | `(tactic| lcg_off) => `(tactic| repeat kpt_turns)
local macro_rules | `(tactic| kaf_pre) => `(tactic| ((with_reducible refine' rd_menu ?c ?a ?b ?_); (case c => tlg_ne); (case a => first | exact Int.emod_nonneg _ (by decide) | omega); (case b => first | exact Int.emod_lt_of_pos _ (by decide) | (simp only [List.length_cons, List.length_nil]; omega))))
local macro_rules | `(tactic| kaf_suf) => `(tactic| ((with_reducible refine' rd_pick ?c ?a ?b ?_); (case c => tlg_ne); (case a => first | exact Int.emod_nonneg _ (by decide) | omega); (case b => first | exact Int.emod_lt_of_pos _ (by decide) | (simp only [List.length_cons, List.length_nil]; omega))))
section
variable {P : Program} {w : World} {K : PySem.W.Frag} {mg : Str → Option Value} {base : Heap}
def spDue : Sp := fun vs H Q _ => ∃ x : Str, vs = [.str x] ∧ okX x ∧ ∀ v H', Same H H' → Rep H' (tiersD x) v → Q v H'
theorem take_nd {used ns : List Int} {f : Int} {pl : Nat} {ws : List Str} (h : llM f used pl ws = some ns) (hp : 1 < pl) : (used ++ ns).Nodup := by
  unfold llM at h
  split at h
  · rename_i z
    obtain rfl := Option.some.inj h
    exact z.2.2.2.2 hp
  · cases h
theorem ll_len {used ns : List Int} {f : Int} {pl : Nat} {ws : List Str} (h : llM f used pl ws = some ns) : ns.length ≤ ws.length := by
  unfold llM at h
  split at h
  · obtain rfl := Option.some.inj h
    unfold gotN numsM
    rw [List.length_map, List.length_map, List.length_drop]
    omega
  · cases h
theorem pre_snoc {zs : List Str} {fs : List (List Int)} {ns : List Int} (p : PreD zs fs) (h : llM (frAt fs fs.length) (fs.drop 2).flatten fs.length (wordsT (rowAtM zs fs.length)) = some ns) : PreD zs (fs ++ [ns]) := by
  intro j ms hj
  have hfr : ∀ k, k ≤ fs.length → frAt (fs ++ [ns]) k = frAt fs k := fun k hk => by
    unfold frAt
    by_cases c : 1 < k
    · rw [if_pos c, if_pos c]
      match fs, hk with
      | [], hk => simp only [List.length_nil] at hk; omega
      | a :: r, _ => rfl
    · rw [if_neg c, if_neg c]
  by_cases c : j < fs.length
  · rw [List.getElem?_append_left c] at hj
    rw [List.take_append_of_le_length (by omega), hfr j (by omega)]
    exact p j ms hj
  · have hl : j < (fs ++ [ns]).length := (List.getElem?_eq_some_iff.mp hj).1
    rw [List.length_append, List.length_cons, List.length_nil] at hl
    obtain rfl : j = fs.length := by omega
    rw [List.getElem?_concat_length] at hj
    obtain rfl := Option.some.inj hj
    rw [List.take_left, hfr _ (Nat.le_refl _)]
    exact h
theorem sc__law_due : FnScope ["_law_text_here", "_law_lines", "_law_found", "_law_used", "_law_place", "_law_fresh", "_law_numbers"] ["_law_text_here"] (defScope s__law_due) := ⟨rfl, rfl, rfl, by decide +kernel, rfl, by decide +kernel, by decide +kernel⟩
theorem ok__law_due (T : Txt K mg) {f : Addr} {fd : FuncData} (N : Fn K mg "_law_due" s__law_due ["_law_text_here"] f fd) : FnOk P w K mg base CX0 (3) f fd ["_law_text_here"] (spDue) := by
  obtain ⟨_, _, N__law_line⟩ := T.f__law_line
  have G__law_line := ok__law_line (P := P) (w := w) (base := base) T N__law_line 
  refine N.fu.okB sc__law_due (fun vs H Q E h => ?_) (fun cdv A outer s H vs Q E hr h => ?_)
  · obtain ⟨x, rfl, _⟩ := h
    rfl
  · obtain ⟨x, rfl, ⟨hx, hx0, hx1⟩, q⟩ := h
    obtain ⟨y, hy⟩ := rows_split x
    refine ⟨_, (bss_cons (bs_set (i := 1) sc__law_due.nd rfl (by first | exact Or.inl rfl | exact Or.inr rfl) (bm_split (bv 0) (ba_c b_str ba_nil rfl)))
    (bss_cons (bs_set (i := 2) sc__law_due.nd rfl (by first | exact Or.inl rfl | exact Or.inr rfl) (b_lst ba_nil))
    (bss_cons (bs_set (i := 3) sc__law_due.nd rfl (by first | exact Or.inl rfl | exact Or.inr rfl) (b_lst ba_nil))
    (bss_cons (bs_for PassesOwn.never rfl (bi_r1 T.b_range (ba_c b_int ba_nil rfl)) (bg_name (i := 4) sc__law_due.nd rfl (by first | exact Or.inl rfl | exact Or.inr rfl))
      (bss_cons (bs_if (bt_cmp op_ge (bv 4) (b_op op_sub (b_b c_len T.b_len (by kernel_rfl) (ba_c (bv 1) ba_nil rfl)) b_int) (nomark _))
      (bss_one (bs_ret (b_op o_add (bv 4) b_int)))
      bss_nil)
    (bss_cons (bs_set (i := 5) sc__law_due.nd rfl (by first | exact Or.inl rfl | exact Or.inr rfl) b_int)
    (bss_cons (bs_if (bt_cmp op_gt (bv 4) b_int (nomark _))
      (bss_one (bs_set (i := 5) sc__law_due.nd rfl (by first | exact Or.inl rfl | exact Or.inr rfl) (b_ix ix_seq (b_ix ix_seq (bv 2) b_int (fun _ _ => rfl)) b_int (fun _ _ => rfl))))
      bss_nil)
    (bss_cons (bs_set (i := 6) sc__law_due.nd rfl (by first | exact Or.inl rfl | exact Or.inr rfl) (b_f N__law_line G__law_line (hr.mono (by first | decide | omega)) (ba_c (bm_split (b_ix ix_seq (bv 1) (bv 4) (fun _ _ => rfl)) (ba_c b_str ba_nil rfl)) (ba_c (bv 4) (ba_c (bv 5) (ba_c (bv 3) ba_nil rfl) rfl) rfl) rfl)))
    (bss_cons (bs_if (bt_cmp o_is (bv 6) b_non (nomark _))
      (bss_one (bs_ret (b_op o_add (bv 4) b_int)))
      bss_nil)
    (bss_cons (bs_expr (bm_append (bv 2) (ba_c (bv 6) ba_nil rfl)))
    (bss_one (bs_if (bt_cmp op_gt (bv 4) b_int (nomark _))
      (bss_one (bs_set (i := 3) sc__law_due.nd rfl (by first | exact Or.inl rfl | exact Or.inr rfl) (b_op o_add (bv 3) (bv 6))))
      bss_nil)))))))))
    (bss_cons (bs_if (bt_w (bw_or (bt_cmp op_gt (b_b c_len T.b_len (by kernel_rfl) (ba_c (bv 1) ba_nil rfl)) b_int (nomark _)) (bw_or1 (bt_cmp (o_neD (room100 hr)) (b_ix ix_seq (bv 1) b_int (fun _ _ => rfl)) b_str (nomark _)))))
      (bss_one (bs_ret b_int))
      bss_nil)
    (bss_one (bs_ret (b_tup (ba_c (b_ix ix_seq (b_ix ix_seq (bv 2) b_int (fun _ _ => rfl)) b_int (fun _ _ => rfl)) (ba_c (b_ix ix_seq (b_ix ix_seq (bv 2) b_int (fun _ _ => rfl)) b_int (fun _ _ => rfl)) (ba_c (b_tup (ba_c (b_t c_tuple T.b_tuple (by kernel_rfl) (ba_c (b_ix ix_seq (bv 2) b_int (fun _ _ => rfl)) ba_nil rfl)) (ba_c (b_t c_tuple T.b_tuple (by kernel_rfl) (ba_c (b_ix ix_seq (bv 2) b_int (fun _ _ => rfl)) ba_nil rfl)) (ba_c (b_t c_tuple T.b_tuple (by kernel_rfl) (ba_c (b_ix ix_seq (bv 2) b_int (fun _ _ => rfl)) ba_nil rfl)) ba_nil rfl) rfl) rfl)) ba_nil rfl) rfl) rfl))))))))), ?_⟩
    kas_types
    lcg_off
    refine ⟨rfl, ?_⟩
    lcg_off
    refine rd_split (by decide +kernel) (by rw [sizeLine_eq]; omega) (fun pL H1 hpL s1 g1 => ?_)
    rw [hy] at g1
    lcg_off
    rename_i pf H2 hpf s2 g2 pu H3 hpu s3 g3
    have nuf : pu ≠ pf := fun z => by rw [z, g2] at hpu; cases hpu
    have nLf : pL ≠ pf := fun z => by rw [← z, g1] at hpf; cases hpf
    have hf0 : H pf = none := s1.free hpf
    have sF3 : Same H H3 := (s1.trans s2).trans s3
    have gL3 : H3 pL = some (.lst ((rowsM x ++ [y]).map V.str)) := s3 _ _ (s2 _ _ g1)
    have gf3 : H3 pf = some (.lst []) := s3 _ _ g2
    clear s1 s2 s3 g1 g2 hpf
    have hrow : ∀ i, (rowAtM (rowsM x) i).length ≤ 5000 := fun i => by
      cases i with
      | zero => exact hx0
      | succ i => exact Nat.le_trans (hx1 i) (by decide)
    refine forR (fun i σ G => ∃ (fs : List (List Int)) (as : List Addr) (pu : Addr) (o4 o5 o6 : Option V), σ = [some (.str x), some (.ref pL), some (.ref pf), some (.ref pu), o4, o5, o6] ∧ fs.length = i ∧ as.length = i ∧ PreD (rowsM x) fs ∧ Same H G ∧ G pL = some (.lst ((rowsM x ++ [y]).map V.str)) ∧ G pf = some (.lst (as.map V.ref)) ∧ G pu = some (.lst ((fs.drop 2).flatten.map V.int)) ∧ pu ≠ pf ∧ (∀ (j : Nat) (a : Addr) (ns : List Int), as[j]? = some a → fs[j]? = some ns → a ≠ pf ∧ G a = some (.lst (ns.map V.int))) ∧ (fs.drop 2).flatten.Nodup ∧ (fs.drop 2).flatten.length ≤ 1003 * (i - 2))
      ⟨[], [], pu, none, none, none, rfl, rfl, rfl, (fun j ns h => by cases h), sF3, gL3, gf3, g3, nuf, (fun j a ns h => by cases h), List.nodup_nil, Nat.zero_le _⟩ (fun i σ G hi h => ?_) (fun σ G h => ?_)
    · obtain ⟨fs, as, pu', o4, o5, o6, rfl, hfl, hal, hp, sG, gL, gf, gu, nuf', hat, hnd, hfz⟩ := h
      have hi5 : i < 5 := hi
      have qb : llM (frAt fs i) (fs.drop 2).flatten i (wordsT (rowAtM (rowsM x) i)) = none → ∀ H', Same H H' → Q (.int (0 + (i : Int) + 1)) H' := fun h H' s => q _ _ s (by
        rw [tiersD_l (due_bad (by omega) hp (by rw [hfl]; exact h)), show (0 + (i : Int) + 1) = ((fs.length + 1 : Nat) : Int) by omega]
        exact Rep.int')
      have hll : ((rowsM x ++ [y]).map V.str).length = (rowsM x).length + 1 := by rw [List.length_map, List.length_append]; rfl
      lcg_off
      rw [hll]
      refine ite_dec (fun h1 => ?_) (fun h1 => ?_)
      · lcg_off
        exact qb (ll_gone (by omega) hi5 _ _) _ sG
      have hiz : i < (rowsM x).length := by omega
      have hrx : ((rowsM x ++ [y]).map V.str)[i]? = some (.str (rowAtM (rowsM x) i)) := by
        rw [List.getElem?_map, List.getElem?_append_left hiz]
        unfold rowAtM
        rw [List.getD_eq_getElem?_getD, List.getElem?_eq_getElem hiz]
        rfl
      have hwords : ∀ z ∈ wordsT (rowAtM (rowsM x) i), z.length ≤ 5000 := fun z hz => by
        unfold wordsT at hz
        rw [bl_str] at hz
        exact Nat.le_trans (split_word hz) (hrow i)
      have hwl : (wordsT (rowAtM (rowsM x) i)).length ≤ 5002 := Nat.le_trans (splitN_le _ _) (by have := hrow i; omega)
      have hrl := hrow i
      lcg_off
      refine ite_dec (fun h2 => ?_) (fun h2 => ?_)
      focus
        obtain ⟨a, as', rfl⟩ : ∃ a as', as = a :: as' := by
          cases as with
          | nil => simp only [List.length_nil] at hal; omega
          | cons a as' => exact ⟨a, as', rfl⟩
        obtain ⟨ns0, fs', rfl⟩ : ∃ a as', fs = a :: as' := by
          cases fs with
          | nil => simp only [List.length_nil] at hfl; omega
          | cons a as' => exact ⟨a, as', rfl⟩
        obtain ⟨f0, rfl, _⟩ := pre_one hp
        have ha := (hat 0 a _ rfl rfl).2
        lcg_off
        refine rd_ixL (SqL.of gf) (v := .ref a) (atI_nat (j := 0) rfl) ?_
        lcg_off
        have hfr : frAt ([(f0 : Int)] :: fs') i = (f0 : Nat) := if_pos (by omega)
        clear ha
        generalize ([(f0 : Int)] :: fs') = fs at *
        generalize (a :: as') = as at *
      rotate_left
      focus
        have hfr : frAt fs i = 0 := if_neg (by omega)
        lcg_off
      all_goals
        refine rd_ixL (SqL.of gL) (v := .str (rowAtM (rowsM x) i)) (by rw [show (0 : Int) + (i : Int) = ((i : Nat) : Int) by omega]; exact atI_nat hrx) ?_
        lcg_off
        refine ⟨rfl, ?_⟩
        lcg_off
        refine rd_split (by decide +kernel) (by rw [sizeLine_eq]; omega) (fun pw H4 hpw s4 g4 => ?_)
        rw [show Txt.split (rowAtM (rowsM x) i) (Str.ofString " ") = wordsT (rowAtM (rowsM x) i) from rfl] at g4
        lcg_off
        refine line_use (wordsT (rowAtM (rowsM x) i)) i _ ((fs.drop 2).flatten) (by omega) g4 (s4 _ _ gu) hi5 (splitN_pos _ _) hwl (by omega) hnd hwords (fun hn H5 s5 => ?_) (fun ns hn pn H5 hpn s5 g5 => ?_)
        · lcg_off
          exact qb (by rw [hfr]; exact hn) _ ((sG.trans s4).trans s5)
        have hn' : llM (frAt fs fs.length) (fs.drop 2).flatten fs.length (wordsT (rowAtM (rowsM x) fs.length)) = some ns := by rw [hfl, hfr]; exact hn
        have hnl := ll_len hn
        have g5f : H5 pf = some (.lst (as.map V.ref)) := s5 _ _ (s4 _ _ gf)
        have npn : pn ≠ pf := fun z => by rw [z, s4 _ _ gf] at hpn; cases hpn
        have uL : upd H5 pf (.lst (as.map V.ref ++ [.ref pn])) pL = some (.lst ((rowsM x ++ [y]).map V.str)) := by rw [upd_ne nLf]; exact s5 _ _ (s4 _ _ gL)
        have uf : upd H5 pf (.lst (as.map V.ref ++ [.ref pn])) pf = some (.lst ((as ++ [pn]).map V.ref)) := by rw [upd_same, List.map_append]; rfl
        have uu : upd H5 pf (.lst (as.map V.ref ++ [.ref pn])) pu' = some (.lst ((fs.drop 2).flatten.map V.int)) := by rw [upd_ne nuf']; exact s5 _ _ (s4 _ _ gu)
        have un : upd H5 pf (.lst (as.map V.ref ++ [.ref pn])) pn = some (.lst (ns.map V.int)) := by rw [upd_ne npn]; exact g5
        have sU : Same H (upd H5 pf (.lst (as.map V.ref ++ [.ref pn]))) := same_updL ((sG.trans s4).trans s5) hf0
        have uat : ∀ (j : Nat) (a : Addr) (ms : List Int), (as ++ [pn])[j]? = some a → (fs ++ [ns])[j]? = some ms → a ≠ pf ∧ upd H5 pf (.lst (as.map V.ref ++ [.ref pn])) a = some (.lst (ms.map V.int)) := fun j a ms e1 e2 => by
          by_cases c : j < i
          · rw [List.getElem?_append_left (by omega)] at e1 e2
            obtain ⟨z1, z2⟩ := hat j a ms e1 e2
            exact ⟨z1, by rw [upd_ne z1]; exact s5 _ _ (s4 _ _ z2)⟩
          · have hl : j < (as ++ [pn]).length := (List.getElem?_eq_some_iff.mp e1).1
            rw [List.length_append, List.length_cons, List.length_nil] at hl
            obtain rfl : j = i := by omega
            rw [← hal, List.getElem?_concat_length] at e1
            obtain rfl := Option.some.inj e1
            rw [← hfl, List.getElem?_concat_length] at e2
            obtain rfl := Option.some.inj e2
            exact ⟨npn, un⟩
        have hp' := pre_snoc hp hn'
        lcg_off
        refine rd_append g5f (by rw [List.length_map, sizeLine_eq]; omega) ?_
        generalize upd H5 pf (.lst (as.map V.ref ++ [.ref pn])) = U at *
        clear sG s4 s5 gf gu gL g5f g5 g4 hat hp
        lcg_off
        refine ite_dec (fun k1 => ?_) (fun k1 => ?_)
        · have hd2 : ((fs ++ [ns]).drop 2).flatten = (fs.drop 2).flatten ++ ns := by
            rw [List.drop_append_of_le_length (by omega), List.flatten_append]
            simp
          lcg_off
          first | (refine rd_addL uu un (by rw [List.length_map, List.length_map, sizeLine_eq]; omega) (fun p8 H8 hp8 s8 g8 => ?_)) | (rename_i p8 H8 hp8 s8 g8)
          rw [← List.map_append, ← hd2] at g8
          have hn1 : ns.length ≤ 1003 := Nat.le_trans hnl (Nat.le_trans (splitN_le _ _) (by
            obtain ⟨k, rfl⟩ : ∃ k, i = k + 1 := ⟨i - 1, by omega⟩
            have := hx1 k
            omega))
          exact ⟨fs ++ [ns], as ++ [pn], p8, _, _, _, rfl, by rw [List.length_append, hfl]; rfl, by rw [List.length_append, hal]; rfl, hp', sU.trans s8, s8 _ _ uL, s8 _ _ uf, g8, (fun z => by rw [z, uf] at hp8; cases hp8), fun j a ms e1 e2 => ⟨(uat j a ms e1 e2).1, s8 _ _ (uat j a ms e1 e2).2⟩, by rw [hd2]; exact take_nd hn (by omega), by rw [hd2, List.length_append]; omega⟩
        · have hd2 : ((fs ++ [ns]).drop 2).flatten = (fs.drop 2).flatten := by
            rw [List.drop_eq_nil_of_le (by rw [List.length_append, List.length_cons, List.length_nil]; omega), List.drop_eq_nil_of_le (by omega)]
          lcg_off
          exact ⟨fs ++ [ns], as ++ [pn], pu', _, _, _, rfl, by rw [List.length_append, hfl]; rfl, by rw [List.length_append, hal]; rfl, hp', sU, uL, uf, by rw [hd2]; exact uu, nuf', uat, by rw [hd2]; exact hnd, by rw [hd2]; omega⟩
    · obtain ⟨fs, as, pu', o4, o5, o6, rfl, hfl, hal, hp, sG, gL, gf, gu, nuf', hat, hnd, hfz⟩ := h
      have hll : ((rowsM x ++ [y]).map V.str).length = (rowsM x).length + 1 := by rw [List.length_map, List.length_append]; rfl
      have hfl5 : fs.length = 5 := hfl
      have hal5 : as.length = 5 := hal
      match fs, hfl5, as, hal5, hp, hat, gf with
      | [t0, t1, t2, t3, t4], _, [a0, a1, a2, a3, a4], _, hp, hat, gf =>
        obtain ⟨f1, n1, rfl, rfl, h5, hm⟩ := due_good (r := [t2, t3, t4]) rfl hp
        have e0 := (hat 0 a0 _ rfl rfl).2
        have e1 := (hat 1 a1 _ rfl rfl).2
        have e2 := (hat 2 a2 _ rfl rfl).2
        have e3 := (hat 3 a3 _ rfl rfl).2
        have e4 := (hat 4 a4 _ rfl rfl).2
        have h5i := five_iff hy h5
        clear hat gu hfz hnd
        have q6 : ¬ ((rowsM x).length = 5 ∧ y = Str.ofString "") → ∀ H', Same H H' → Q (.int 6) H' := fun h H' s => q _ _ s (by
          rw [tiersD_l (l := 6) (by rw [hm]; exact if_neg fun z => h (h5i.mp z))]
          exact Rep.int')
        lcg_off
        rw [hll]
        refine ite_dec (fun k1 => ?_) (fun k1 => ?_)
        · lcg_off
          exact q6 (fun z => by omega) _ sG
        have hz5 : (rowsM x).length = 5 := by omega
        lcg_off
        refine rd_ixL (SqL.of gL) (v := .str y) (atI_nat (j := 5) (by rw [List.getElem?_map, ← hz5, List.getElem?_concat_length]; rfl)) ?_
        lcg_off
        refine ite_ndec (fun k2 => ?_) (fun k2 => ?_)
        · lcg_off
          exact q6 (fun z => k2 z.2) _ sG
        have hT : tiersM x = .inr (f1, n1, [t2, t3, t4]) := by rw [hm]; exact if_pos (h5i.mpr ⟨hz5, k2⟩)
        lcg_off
        refine rd_tupleL (SqL.of e2) (fun b2 G2 hb2 sb2 gb2 => ?_)
        lcg_off
        have gf2 := sb2 _ _ gf
        have e32 := sb2 _ _ e3
        first | (refine rd_ixL (SqL.of gf2) (v := .ref a3) (atI_nat (j := 3) rfl) ?_; lcg_off) | skip
        refine rd_tupleL (SqL.of e32) (fun b3 G3 hb3 sb3 gb3 => ?_)
        lcg_off
        have gf4 := sb3 _ _ gf2
        have e43 := sb3 _ _ (sb2 _ _ e4)
        first | (refine rd_ixL (SqL.of gf4) (v := .ref a4) (atI_nat (j := 4) rfl) ?_; lcg_off) | skip
        refine rd_tupleL (SqL.of e43) (fun b4 G4 hb4 sb4 gb4 => ?_)
        lcg_off
        rename_i b5 G5 hb5 sb5 gb5 b6 G6 sb6 gb6
        refine q _ _ (((((sG.trans sb2).trans sb3).trans sb4).trans sb5).trans sb6) ?_
        rw [tiersD_r hT]
        have r2 : Rep G6 (rowI t2) (.ref b2) := (((((Rep.mkT gb2 (int_reps t2)).same sb3).same sb4).same sb5).same sb6)
        have r3 : Rep G6 (rowI t3) (.ref b3) := ((((Rep.mkT gb3 (int_reps t3)).same sb4).same sb5).same sb6)
        have r4 : Rep G6 (rowI t4) (.ref b4) := (((Rep.mkT gb4 (int_reps t4)).same sb5).same sb6)
        exact Rep.mkT gb6 (Reps.cons' Rep.int' (Reps.cons' Rep.int' (Reps.cons' (Rep.mkT (sb6 _ _ gb5) (Reps.cons' r2 (Reps.cons' r3 (Reps.cons' r4 Reps.nil')))) Reps.nil')))
theorem due_use {H : Hp} {Q : VK} {E : XK} (x : Str) (h : okX x) (q : ∀ v H', Same H H' → Rep H' (tiersD x) v → Q v H') : spDue [.str x] H Q E := ⟨x, rfl, h, q⟩

end
end T53


set_option Elab.async false
set_option linter.all false
set_option maxRecDepth 100000
set_option maxHeartbeats 4000000
namespace T53
open PySem L2
local macro_rules | `(tactic| lcg_src) => `(tactic| first | with_reducible assumption | ((with_reducible refine' Same.get ?s ?e); (case s => with_reducible assumption); (case e => lcg_src)))
local macro_rules | `(tactic| lcg_sub) => `(tactic| first | with_reducible assumption | with_reducible exact Same.refl _ | ((with_reducible refine' Same.tr ?s ?e); (case s => with_reducible assumption); (case e => lcg_sub)))
local macro_rules | `(tactic| keq_rows) => `(tactic| first | with_reducible assumption | with_reducible exact Rep.int' | with_reducible exact Rep.str' | with_reducible exact Rep.bl' | with_reducible exact Rep.non' | ((with_reducible refine' Rep.same ?s ?e); (case s => with_reducible assumption); (case e => keq_rows)) | ((with_reducible refine' Rep.mkT ?c ?_); (case c => lcg_src); keq_hits) | ((with_reducible refine' Rep.mkL ?c ?_); (case c => lcg_src); keq_hits) | ((with_reducible refine' Rep.mkD ?c); (case c => lcg_src)))
local macro_rules | `(tactic| keq_hits) => `(tactic| first | with_reducible assumption | with_reducible exact Reps.nil' | ((with_reducible refine' Reps.cons' ?c ?_); (case c => keq_rows); keq_hits) | ((with_reducible refine' Reps.same ?s ?e); (case s => with_reducible assumption); (case e => keq_hits)))
local macro_rules | `(tactic| tlg_ne) => `(tactic| first | with_reducible assumption | ((with_reducible refine' SqL.of ?c); (case c => lcg_src)) | ((with_reducible refine' SqT.of ?c); (case c => lcg_src)) | ((with_reducible refine' SqL.same ?s ?e); (case s => with_reducible assumption); (case e => tlg_ne)))
local macro_rules | `(tactic| kpc_turns) => `(tactic| first | decide | omega | (constructor <;> first | decide | omega))
local macro_rules | `(tactic| kas_types) => `(tactic| simp only [cxK, cxK', compK, triedK, heldXK, start_cc, start_cn, start_nn])
local macro_rules | `(tactic| kpt_turns) => `(tactic| first
  | refine rd_go ?_
  | ((with_reducible refine' rd_mod ?c ?_); (case c => kpc_turns))
  | ((with_reducible refine' rd_fdiv ?c ?_); (case c => kpc_turns))
  | ((with_reducible refine' rd_mulI ?c ?_); (case c => first | exact .inl (by kpc_turns) | exact .inr (by kpc_turns)))
  | ((with_reducible refine' rd_mkT ?c ?_); (case c => (simp only [List.length_cons, List.length_nil]; decide)); intro _ _ _ _)
  | ((with_reducible refine' rd_mkL ?c ?_); (case c => (simp only [List.length_cons, List.length_nil]; decide)); intro _ _ _ _ _)
  | ((with_reducible refine' rd_ixT ?c ?d ?_); (case c => tlg_ne); (case d => exact rfl))
  | ((with_reducible refine' rd_ixL ?c ?d ?_); (case c => tlg_ne); (case d => exact rfl))
  | ((with_reducible refine' rd_isT ?c ?_); (case c => lcg_src))
  | ((with_reducible refine' rd_isL ?c ?_); (case c => lcg_src))
  | ((with_reducible refine' rd_isD ?c ?_); (case c => lcg_src))
  | ((with_reducible refine' rd_lenT ?c ?_); (case c => tlg_ne))
  | ((with_reducible refine' rd_lenL ?c ?_); (case c => tlg_ne))
  | ((with_reducible refine' rd_lenS ?c ?_); (case c => first | assumption | (show _ ≤ 16777216; decide) | omega))
  | ((with_reducible refine' rd_slT ?c ?d ?_); (case c => tlg_ne); (case d => simp [HT.sIx]; done); intro _ _ _ h; (simp [cutV, HT.sIx] at h))
  | ((with_reducible refine' rd_bmL ?c ?_); (case c => lcg_src))
  | ((with_reducible refine' rd_shr ?c ?_); (case c => omega))
  | ((with_reducible refine' rd_dnew ?_); intro _ _ _ _ _)
  | ((with_reducible refine' rd_pow ?c ?_); (case c => kpc_turns))
  | ((with_reducible refine' rd_exL ?c ?_); (case c => tlg_ne))
  | ((with_reducible refine' rd_exT ?c ?_); (case c => tlg_ne))
  | ((with_reducible refine' rd_exr1 ?c ?_); (case c => kpc_turns))
  | ((with_reducible refine' rd_exr2 ?c ?_); (case c => refine ⟨?_, ?_, ?_, ?_⟩ <;> first | decide | omega))
  | ((with_reducible refine' rd_gTup ?c ?d ?_); (case c => tlg_ne); (case d => exact rfl))
  | ((with_reducible refine' rd_listL ?c ?_); (case c => tlg_ne); intro _ _ _ _ _)
  | ((with_reducible refine' rd_listT ?c ?_); (case c => tlg_ne); intro _ _ _ _ _)
  | ((with_reducible refine' rd_addL ?c ?d ?e ?_); (case c => lcg_src); (case d => lcg_src); (case e => first | (simp only [List.length_cons, List.length_nil]; decide) | (simp only [List.length_cons, List.length_nil, List.length_append, sizeLine_eq]; omega)); intro _ _ _ _ h; (try simp only [List.cons_append, List.nil_append] at h))
  | ((with_reducible refine' rd_addT ?c ?d ?f ?e ?_); (case c => lcg_src); (case d => lcg_src); (case f => (intro h; cases h)); (case e => first | (simp only [List.length_cons, List.length_nil]; decide) | (simp only [List.length_cons, List.length_nil, List.length_append, sizeLine_eq]; omega)); intro _ _ _ h; (try simp only [List.cons_append, List.nil_append] at h)))
local macro_rules | `(tactic| lcg_off) => `(tactic| repeat kpt_turns)
local macro_rules | `(tactic| kaf_pre) => `(tactic| ((with_reducible refine' rd_menu ?c ?a ?b ?_); (case c => tlg_ne); (case a => first | exact Int.emod_nonneg _ (by decide) | omega); (case b => first | exact Int.emod_lt_of_pos _ (by decide) | (simp only [List.length_cons, List.length_nil]; omega))))
local macro_rules | `(tactic| kaf_suf) => `(tactic| ((with_reducible refine' rd_pick ?c ?a ?b ?_); (case c => tlg_ne); (case a => first | exact Int.emod_nonneg _ (by decide) | omega); (case b => first | exact Int.emod_lt_of_pos _ (by decide) | (simp only [List.length_cons, List.length_nil]; omega))))
section
variable {P : Program} {w : World} {K : PySem.W.Frag} {mg : Str → Option Value} {base : Heap}
/-! ### the law's spoilt texts: how long they are -/
def spSigns : Sp := fun vs H Q _ => ∃ (x : Str) (cell way : Nat), vs = [.str x, .int (cell : Nat), .int (way : Nat)] ∧ x.length ≤ 300 ∧ way < 4 ∧ ∀ (z : Str) H', z.length ≤ 601 → Same H H' → Q (.str z) H'
theorem sl_le (x : Str) (l u : Option Int) : (Txt.slice x l u).length ≤ x.length := PyProof.Txt.length_slice_le x l u
def SGN : Str := Str.ofString " !\"#$&'()*+,-./0123456789:;<=>?@ABCDEFGHIJKLMNOPQRSTUVWXYZ[\\]^_`" ++ Str.ofString "abcdefghijklmnopqrstuvwxyz{|}~\t\n"
theorem rd_slG {K : PySem.W.Frag} {H : Hp} {Q : VK} {x : Str} {lo hi : Option Int} (hx : x.length ≤ 5000) (h : ∀ z : Str, z.length ≤ x.length → Q (.str z) H) : rSlP K (.str x) lo hi H Q := rd_slS (by rw [sizeLine_eq]; omega) (h _ (sl_le x lo hi))
theorem rd_addG {K : PySem.W.Frag} {H : Hp} {Q : VK} {x y : Str} (hx : x.length + y.length ≤ 10000) (h : ∀ z : Str, z.length = x.length + y.length → Q (.str z) H) : rAddP K (.str x) (.str y) H Q := rd_addS (by rw [sizeLine_eq]; omega) (h _ (la x y))
theorem sc__law_signs : FnScope ["_law_text_here", "_law_cell", "_law_way", "_law_some", "_law_at", "_law_sign"] ["_law_text_here", "_law_cell", "_law_way"] (defScope s__law_signs) := ⟨rfl, rfl, rfl, by decide +kernel, rfl, by decide +kernel, by decide +kernel⟩
theorem ok__law_signs (T : Txt K mg) {f : Addr} {fd : FuncData} (N : Fn K mg "_law_signs" s__law_signs ["_law_text_here", "_law_cell", "_law_way"] f fd) : FnOk P w K mg base CX0 (1) f fd ["_law_text_here", "_law_cell", "_law_way"] (spSigns) := by
  refine N.fu.okB sc__law_signs (fun vs H Q E h => ?_) (fun cdv A outer s H vs Q E hr h => ?_)
  · obtain ⟨x, cell, way, rfl, _⟩ := h
    rfl
  · obtain ⟨x, cell, way, rfl, hx, hw, q⟩ := h
    have hxs : x.length ≤ sizeLine := by rw [sizeLine_eq]; omega
    refine ⟨_, (bss_cons (bs_set (i := 3) sc__law_signs.nd rfl (by first | exact Or.inl rfl | exact Or.inr rfl) b_str)
    (bss_cons (bs_set (i := 3) sc__law_signs.nd rfl (by first | exact Or.inl rfl | exact Or.inr rfl) (b_op o_add (bv 3) b_str))
    (bss_cons (bs_set (i := 4) sc__law_signs.nd rfl (by first | exact Or.inl rfl | exact Or.inr rfl) (b_op op_mod (bv 1) (b_op o_add (b_b c_len T.b_len (by kernel_rfl) (ba_c (bv 0) ba_nil rfl)) b_int)))
    (bss_cons (bs_set (i := 5) sc__law_signs.nd rfl (by first | exact Or.inl rfl | exact Or.inr rfl) (b_ix ix_seq (bv 3) (b_op op_mod (b_op op_fdiv (bv 1) b_int) (b_b c_len T.b_len (by kernel_rfl) (ba_c (bv 3) ba_nil rfl))) (fun _ _ => rfl)))
    (bss_cons (bs_set (i := 3) sc__law_signs.nd rfl (by first | exact Or.inl rfl | exact Or.inr rfl) (b_lst (ba_c (b_op o_add (b_slice s_any (bv 0) bo_none (bo_some (bv 4))) (b_slice s_any (bv 0) (bo_some (b_op o_add (bv 4) b_int)) bo_none)) (ba_c (b_op o_add (b_op o_add (b_slice s_any (bv 0) bo_none (bo_some (bv 4))) (bv 5)) (b_slice s_any (bv 0) (bo_some (bv 4)) bo_none)) (ba_c (b_op o_add (b_op o_add (b_slice s_any (bv 0) bo_none (bo_some (bv 4))) (bv 5)) (b_slice s_any (bv 0) (bo_some (b_op o_add (bv 4) b_int)) bo_none)) ba_nil rfl) rfl) rfl)))
    (bss_one (bs_ret (b_ix ix_seq (b_op o_add (bv 3) (b_lst (ba_c (b_ix ix_seq (b_lst (ba_c (b_slice s_any (bv 0) bo_none (bo_some (b_un un_neg b_int))) (ba_c (b_op o_add (bv 0) (bv 5)) ba_nil rfl) rfl)) (b_op op_mod (b_op op_fdiv (bv 1) b_int) b_int) (fun _ _ => rfl)) ba_nil rfl))) (bv 2) (fun _ _ => rfl))))))))), ?_⟩
    kas_types
    lcg_off
    refine rd_addS (by rw [sizeLine_eq]; decide +kernel) ?_
    rw [show Str.ofString " !\"#$&'()*+,-./0123456789:;<=>?@ABCDEFGHIJKLMNOPQRSTUVWXYZ[\\]^_`" ++ Str.ofString "abcdefghijklmnopqrstuvwxyz{|}~\t\n" = SGN from rfl]
    have hS : SGN.length ≤ sizeLine := by rw [sizeLine_eq]; decide +kernel
    have hS1 : 0 < SGN.length := by decide +kernel
    generalize SGN = S at *
    lcg_off
    have hj : cell / 300 % S.length < S.length := Nat.mod_lt _ hS1
    refine rd_ixS hS (c := S.cps.toList[cell / 300 % S.length]'(by rw [← len_list]; exact hj)) ?_ ?_
    · rw [show ((cell : Nat) : Int) / 300 % ((S.length : Nat) : Int) = ((cell / 300 % S.length : Nat) : Int) by push_cast; rfl]
      exact atI_nat (List.getElem?_eq_getElem (by rw [← len_list]; exact hj))
    obtain ⟨g, hg⟩ : ∃ g : Str, g = ⟨#[S.cps.toList[cell / 300 % S.length]'(by rw [← len_list]; exact hj)]⟩ := ⟨_, rfl⟩
    have hg1 : g.length = 1 := by rw [hg]; rfl
    rw [← hg]
    clear hg
    lcg_off
    refine rd_slG (by omega) (fun z1 l1 => ?_)
    lcg_off
    refine rd_slG (by omega) (fun z2 l2 => ?_)
    lcg_off
    refine rd_addG (by omega) (fun z3 l3 => ?_)
    lcg_off
    refine rd_slG (by omega) (fun z4 l4 => ?_)
    lcg_off
    refine rd_addG (by omega) (fun z5 l5 => ?_)
    lcg_off
    refine rd_slG (by omega) (fun z6 l6 => ?_)
    lcg_off
    refine rd_addG (by omega) (fun z7 l7 => ?_)
    lcg_off
    refine rd_slG (by omega) (fun z8 l8 => ?_)
    lcg_off
    refine rd_addG (by omega) (fun z9 l9 => ?_)
    lcg_off
    refine rd_slG (by omega) (fun y1 m1 => ?_)
    lcg_off
    refine rd_addG (by omega) (fun y2 m2 => ?_)
    lcg_off
    rename_i p1 H1 hp1 s1 g1
    refine rd_slG (by omega) (fun y3 m3 => ?_)
    lcg_off
    refine rd_addG (by omega) (fun y4 m4 => ?_)
    lcg_off
    rename_i p2 H2 hp2 s2 g2
    obtain ⟨u, hu, hix⟩ : ∃ u : Str, u.length ≤ 301 ∧ atI [V.str y3, V.str y4] ((cell : Int) / 30000 % 2) = some (.str u) := by
      rcases Nat.mod_two_eq_zero_or_one (cell / 30000) with e | e
      · exact ⟨y3, by omega, by rw [show (cell : Int) / 30000 % 2 = ((0 : Nat) : Int) by omega]; exact atI_nat rfl⟩
      · exact ⟨y4, by omega, by rw [show (cell : Int) / 30000 % 2 = ((1 : Nat) : Int) by omega]; exact atI_nat rfl⟩
    refine rd_ixL (SqL.of g2) hix ?_
    lcg_off
    rename_i p3 H3 hp3 s3 g3 p4 H4 hp4 s4 g4
    refine rd_ixL (SqL.of g4) (v := .str ([z3, z7, y2, u].getD way z3)) ?_ ?_
    · match way, hw with
      | 0, _ => exact atI_nat (j := 0) rfl
      | 1, _ => exact atI_nat (j := 1) rfl
      | 2, _ => exact atI_nat (j := 2) rfl
      | 3, _ => exact atI_nat (j := 3) rfl
    refine q _ _ ?_ (((s1.trans s2).trans s3).trans s4)
    match way, hw with
    | 0, _ => show z3.length ≤ 601; omega
    | 1, _ => show z7.length ≤ 601; omega
    | 2, _ => show y2.length ≤ 601; omega
    | 3, _ => show u.length ≤ 601; omega
theorem signs_use {H : Hp} {Q : VK} {E : XK} {i j : Int} (x : Str) (cell way : Nat) (hi : i = (cell : Nat)) (hj : j = (way : Nat)) (h1 : x.length ≤ 300) (h2 : way < 4) (q : ∀ (z : Str) H', z.length ≤ 601 → Same H H' → Q (.str z) H') : spSigns [.str x, .int i, .int j] H Q E := ⟨x, cell, way, by rw [hi, hj], h1, h2, q⟩

end
end T53


set_option Elab.async false
set_option linter.all false
set_option maxRecDepth 100000
set_option maxHeartbeats 4000000
namespace T53
open PySem L2
local macro_rules | `(tactic| lcg_src) => `(tactic| first | with_reducible assumption | ((with_reducible refine' Same.get ?s ?e); (case s => with_reducible assumption); (case e => lcg_src)))
local macro_rules | `(tactic| lcg_sub) => `(tactic| first | with_reducible assumption | with_reducible exact Same.refl _ | ((with_reducible refine' Same.tr ?s ?e); (case s => with_reducible assumption); (case e => lcg_sub)))
local macro_rules | `(tactic| keq_rows) => `(tactic| first | with_reducible assumption | with_reducible exact Rep.int' | with_reducible exact Rep.str' | with_reducible exact Rep.bl' | with_reducible exact Rep.non' | ((with_reducible refine' Rep.same ?s ?e); (case s => with_reducible assumption); (case e => keq_rows)) | ((with_reducible refine' Rep.mkT ?c ?_); (case c => lcg_src); keq_hits) | ((with_reducible refine' Rep.mkL ?c ?_); (case c => lcg_src); keq_hits) | ((with_reducible refine' Rep.mkD ?c); (case c => lcg_src)))
local macro_rules | `(tactic| keq_hits) => `(tactic| first | with_reducible assumption | with_reducible exact Reps.nil' | ((with_reducible refine' Reps.cons' ?c ?_); (case c => keq_rows); keq_hits) | ((with_reducible refine' Reps.same ?s ?e); (case s => with_reducible assumption); (case e => keq_hits)))
local macro_rules | `(tactic| tlg_ne) => `(tactic| first | with_reducible assumption | ((with_reducible refine' SqL.of ?c); (case c => lcg_src)) | ((with_reducible refine' SqT.of ?c); (case c => lcg_src)) | ((with_reducible refine' SqL.same ?s ?e); (case s => with_reducible assumption); (case e => tlg_ne)))
local macro_rules | `(tactic| kpc_turns) => `(tactic| first | decide | omega | (constructor <;> first | decide | omega))
local macro_rules | `(tactic| kas_types) => `(tactic| simp only [cxK, cxK', compK, triedK, heldXK, start_cc, start_cn, start_nn])
local macro_rules | `(tactic| kpt_turns) => `(tactic| first
  | refine rd_go ?_
  | ((with_reducible refine' rd_mod ?c ?_); (case c => kpc_turns))
  | ((with_reducible refine' rd_fdiv ?c ?_); (case c => kpc_turns))
  | ((with_reducible refine' rd_mulI ?c ?_); (case c => first | exact .inl (by kpc_turns) | exact .inr (by kpc_turns)))
  | ((with_reducible refine' rd_mkT ?c ?_); (case c => (simp only [List.length_cons, List.length_nil]; decide)); intro _ _ _ _)
  | ((with_reducible refine' rd_mkL ?c ?_); (case c => (simp only [List.length_cons, List.length_nil]; decide)); intro _ _ _ _ _)
  | ((with_reducible refine' rd_ixT ?c ?d ?_); (case c => tlg_ne); (case d => exact rfl))
  | ((with_reducible refine' rd_ixL ?c ?d ?_); (case c => tlg_ne); (case d => exact rfl))
  | ((with_reducible refine' rd_isT ?c ?_); (case c => lcg_src))
  | ((with_reducible refine' rd_isL ?c ?_); (case c => lcg_src))
  | ((with_reducible refine' rd_isD ?c ?_); (case c => lcg_src))
  | ((with_reducible refine' rd_lenT ?c ?_); (case c => tlg_ne))
  | ((with_reducible refine' rd_lenL ?c ?_); (case c => tlg_ne))
  | ((with_reducible refine' rd_lenS ?c ?_); (case c => first | assumption | (show _ ≤ 16777216; decide) | omega))
  | ((with_reducible refine' rd_slT ?c ?d ?_); (case c => tlg_ne); (case d => simp [HT.sIx]; done); intro _ _ _ h; (simp [cutV, HT.sIx] at h))
  | ((with_reducible refine' rd_bmL ?c ?_); (case c => lcg_src))
  | ((with_reducible refine' rd_shr ?c ?_); (case c => omega))
  | ((with_reducible refine' rd_dnew ?_); intro _ _ _ _ _)
  | ((with_reducible refine' rd_pow ?c ?_); (case c => kpc_turns))
  | ((with_reducible refine' rd_exL ?c ?_); (case c => tlg_ne))
  | ((with_reducible refine' rd_exT ?c ?_); (case c => tlg_ne))
  | ((with_reducible refine' rd_exr1 ?c ?_); (case c => kpc_turns))
  | ((with_reducible refine' rd_exr2 ?c ?_); (case c => refine ⟨?_, ?_, ?_, ?_⟩ <;> first | decide | omega))
  | ((with_reducible refine' rd_gTup ?c ?d ?_); (case c => tlg_ne); (case d => exact rfl))
  | ((with_reducible refine' rd_listL ?c ?_); (case c => tlg_ne); intro _ _ _ _ _)
  | ((with_reducible refine' rd_listT ?c ?_); (case c => tlg_ne); intro _ _ _ _ _)
  | ((with_reducible refine' rd_addL ?c ?d ?e ?_); (case c => lcg_src); (case d => lcg_src); (case e => first | (simp only [List.length_cons, List.length_nil]; decide) | (simp only [List.length_cons, List.length_nil, List.length_append, sizeLine_eq]; omega)); intro _ _ _ _ h; (try simp only [List.cons_append, List.nil_append] at h))
  | ((with_reducible refine' rd_addT ?c ?d ?f ?e ?_); (case c => lcg_src); (case d => lcg_src); (case f => (intro h; cases h)); (case e => first | (simp only [List.length_cons, List.length_nil]; decide) | (simp only [List.length_cons, List.length_nil, List.length_append, sizeLine_eq]; omega)); intro _ _ _ h; (try simp only [List.cons_append, List.nil_append] at h)))
local macro_rules | `(tactic| lcg_off) => `(tactic| repeat kpt_turns)
local macro_rules | `(tactic| kaf_pre) => `(tactic| ((with_reducible refine' rd_menu ?c ?a ?b ?_); (case c => tlg_ne); (case a => first | exact Int.emod_nonneg _ (by decide) | omega); (case b => first | exact Int.emod_lt_of_pos _ (by decide) | (simp only [List.length_cons, List.length_nil]; omega))))
local macro_rules | `(tactic| kaf_suf) => `(tactic| ((with_reducible refine' rd_pick ?c ?a ?b ?_); (case c => tlg_ne); (case a => first | exact Int.emod_nonneg _ (by decide) | omega); (case b => first | exact Int.emod_lt_of_pos _ (by decide) | (simp only [List.length_cons, List.length_nil]; omega))))
section
variable {P : Program} {w : World} {K : PySem.W.Frag} {mg : Str → Option Value} {base : Heap}
/-! ### the law's spoilt lines: the text told is one that can be read -/
def wt (zs : List Str) : Nat := (zs.map fun z => z.length + 1).sum
theorem wt_nil : wt [] = 0 := rfl
theorem wt_cons (z : Str) (zs : List Str) : wt (z :: zs) = z.length + 1 + wt zs := by unfold wt; rw [List.map_cons, List.sum_cons]
theorem wt_app : ∀ xs ys : List Str, wt (xs ++ ys) = wt xs + wt ys
  | [], ys => by rw [wt_nil]; simp
  | x :: xs, ys => by rw [List.cons_append, wt_cons, wt_cons, wt_app xs ys]; omega
theorem wt_sub {xs ys : List Str} (h : xs.Sublist ys) : wt xs ≤ wt ys := by
  induction h with
  | slnil => exact Nat.le_refl _
  | cons a _ ih => rw [wt_cons]; omega
  | cons_cons a _ ih => rw [wt_cons, wt_cons]; omega
theorem wt_mem {z : Str} {zs : List Str} (h : z ∈ zs) : z.length + 1 ≤ wt zs := by
  have := wt_sub (List.singleton_sublist.mpr h)
  rw [wt_cons, wt_nil] at this
  omega
theorem wt_len (zs : List Str) : zs.length ≤ wt zs := by
  induction zs with
  | nil => exact Nat.le_refl _
  | cons z zs ih => rw [wt_cons, List.length_cons]; omega
theorem wt_sum (zs : List Str) : (zs.map (·.length)).sum + zs.length = wt zs := by
  induction zs with
  | nil => rfl
  | cons z zs ih => rw [wt_cons, List.map_cons, List.sum_cons, List.length_cons]; omega
theorem cut_strs (zs : List Str) (lo hi : Option Int) : ∃ ws : List Str, cutV (zs.map V.str) lo hi = ws.map V.str ∧ ws.Sublist zs := by
  unfold cutV
  refine ⟨(zs.drop (HT.sIx (zs.map V.str).length 0 lo)).take (HT.sIx (zs.map V.str).length (zs.map V.str).length hi - HT.sIx (zs.map V.str).length 0 lo), ?_, (List.take_sublist _ _).trans (List.drop_sublist _ _)⟩
  rw [List.map_take, List.map_drop]
theorem rd_slLG {K : PySem.W.Frag} {H : Hp} {Q : VK} {p : Addr} {zs : List Str} {lo hi : Option Int} (h : H p = some (.lst (zs.map V.str))) (q : ∀ (ws : List Str) p' H', wt ws ≤ wt zs → H p' = none → Same H H' → H' p' = some (.lst (ws.map V.str)) → Q (.ref p') H') : rSlP K (.ref p) lo hi H Q :=
  rd_slL (SqL.of h) (fun p' H' h1 s h2 => by obtain ⟨ws, e, hs⟩ := cut_strs zs lo hi; rw [e] at h2; exact q ws p' H' (wt_sub hs) h1 s h2)
theorem rd_addLG {K : PySem.W.Frag} {H : Hp} {Q : VK} {l b : Addr} {xs ys : List Str} (h1 : H l = some (.lst (xs.map V.str))) (h2 : H b = some (.lst (ys.map V.str))) (hz : wt xs + wt ys ≤ 10000) (q : ∀ p H', wt (xs ++ ys) = wt xs + wt ys → H p = none → Same H H' → H' p = some (.lst ((xs ++ ys).map V.str)) → Q (.ref p) H') : rAddP K (.ref l) (.ref b) H Q :=
  rd_addL h1 h2 (by rw [List.length_map, List.length_map, sizeLine_eq]; have := wt_len xs; have := wt_len ys; omega) (fun p H' a s g => q p H' (wt_app xs ys) a s (by rw [List.map_append]; exact g))
theorem rd_ixLG {K : PySem.W.Frag} {H : Hp} {Q : VK} {p : Addr} {zs : List Str} {i : Int} (h : H p = some (.lst (zs.map V.str))) (h0 : 0 ≤ i) (h1 : i < zs.length) (q : ∀ z ∈ zs, zs[i.toNat]? = some z → Q (.str z) H) : rIx K (.ref p) (.int i) H Q := by
  have hl : i.toNat < zs.length := by omega
  obtain ⟨j, rfl⟩ : ∃ j : Nat, i = (j : Int) := ⟨i.toNat, by omega⟩
  rw [Int.toNat_natCast] at hl q
  refine rd_ixL (SqL.of h) (v := .str (zs[j])) (atI_nat ?_) (q _ (List.getElem_mem hl) (List.getElem?_eq_getElem hl))
  rw [List.getElem?_map, List.getElem?_eq_getElem hl]
  rfl
theorem split_two {x : Str} (h : 32 ∈ x.cps.toList) : ∃ a b r, Txt.split x (Str.ofString " ") = a :: b :: r := by
  rw [bl_str]
  have hg := split_glue x 32
  have hf := StrLaws.split_free x 32
  match hs : Txt.split x ⟨#[32]⟩ with
  | [] => exact absurd (splitN_pos x ⟨#[32]⟩) (by rw [hs]; decide)
  | [a] =>
    rw [hs] at hg hf
    have hga : a.cps.toList = x.cps.toList := hg
    exact absurd (hga ▸ h) (hf a (by simp))
  | a :: b :: r => exact ⟨a, b, r, rfl⟩
theorem rd_word {K : PySem.W.Frag} {H : Hp} {Q : VK} {p : Addr} {x : Str} (hb : 32 ∈ x.cps.toList) (h : H p = some (.lst ((Txt.split x (Str.ofString " ")).map V.str))) (q : ∀ z : Str, z.length ≤ x.length → Q (.str z) H) : rIx K (.ref p) (.int 1) H Q := by
  obtain ⟨a, b, r, e⟩ := split_two hb
  refine rd_ixL (SqL.of h) (v := .str b) ?_ (q b (split_word (c := 32) (by rw [← bl_str, e]; simp)))
  rw [e]
  exact atI_nat (j := 1) rfl
theorem okX_short {x : Str} (h : x.length ≤ 1000) : okX x := by
  have hr : ∀ j, (rowAtM (rowsM x) j).length ≤ 1000 := fun j => by
    unfold rowAtM
    rw [List.getD_eq_getElem?_getD]
    cases e : (rowsM x)[j]? with
    | none => rw [show ((none : Option Str).getD (Str.ofString "")) = Str.ofString "" from rfl, le_empty]; omega
    | some z => exact Nat.le_trans (rowsM_le (List.mem_of_getElem? e)) h
  exact ⟨by omega, Nat.le_trans (hr 0) (by omega), fun j => hr _⟩
theorem rowsM_cons {x a b : Str} (h : x.cps.toList = a.cps.toList ++ 10 :: b.cps.toList) (ha : 10 ∉ a.cps.toList) : rowsM x = a :: rowsM b := by
  have hb : Txt.split b (Str.ofString "\n") ≠ [] := fun e => by have := splitN_pos b (Str.ofString "\n"); rw [e] at this; exact absurd this (by decide)
  have e : Txt.split x (Str.ofString "\n") = a :: Txt.split b (Str.ofString "\n") := by
    rw [nl_str] at hb ⊢
    refine split_eq (by simp) (fun z hz => ?_) ?_
    · rcases List.mem_cons.mp hz with rfl | hz
      · exact ha
      · exact StrLaws.split_free b 10 z hz
    · rw [h]
      have hg := split_glue b 10
      match hs : Txt.split b ⟨#[10]⟩, hb with
      | z :: zs, _ =>
        rw [hs] at hg
        show _ = a.cps.toList ++ 10 :: glue 10 ((z :: zs).map fun z => z.cps.toList)
        rw [hg]
  unfold rowsM
  rw [e, List.dropLast_cons_of_ne_nil hb]
theorem okX_long {x a b : Str} (h : x.cps.toList = a.cps.toList ++ 10 :: b.cps.toList) (ha : 10 ∉ a.cps.toList) (h1 : a.length ≤ 4100) (h2 : b.length ≤ 1000) : okX x := by
  have hr := rowsM_cons h ha
  have hl : x.length = a.length + (b.length + 1) := by rw [len_list, h, List.length_append, List.length_cons, ← len_list, ← len_list]
  refine ⟨by omega, ?_, fun j => ?_⟩
  · rw [hr]; show a.length ≤ 5000; omega
  · rw [hr]
    show (rowAtM (rowsM b) j).length ≤ 1000
    match j with
    | 0 =>
      unfold rowAtM
      rw [List.getD_eq_getElem?_getD]
      cases e : (rowsM b)[0]? with
      | none => rw [show ((none : Option Str).getD (Str.ofString "")) = Str.ofString "" from rfl, le_empty]; omega
      | some z => exact Nat.le_trans (rowsM_le (List.mem_of_getElem? e)) h2
    | j + 1 => exact (okX_short h2).2.2 j
theorem glue_wt : ∀ zs : List Str, (glue 10 (zs.map fun z => z.cps.toList)).length ≤ wt zs
  | [] => Nat.zero_le _
  | [z] => by rw [wt_cons, wt_nil]; show z.cps.toList.length ≤ _; rw [← len_list]; omega
  | z :: y :: zs => by
    have ih := glue_wt (y :: zs)
    rw [wt_cons]
    show (z.cps.toList ++ 10 :: glue 10 ((y :: zs).map fun z => z.cps.toList)).length ≤ _
    rw [List.length_append, List.length_cons, ← len_list]
    omega
def GoodR (ws : List Str) : Prop := wt ws ≤ 990 ∨ ∃ (a : Str) (r : List Str), ws = a :: r ∧ 10 ∉ a.cps.toList ∧ a.length ≤ 4100 ∧ wt r ≤ 900
theorem good_wt {ws : List Str} (h : GoodR ws) : wt ws ≤ 5100 := by
  rcases h with h | ⟨a, r, rfl, _, h1, h2⟩
  · omega
  · rw [wt_cons]; omega
theorem good_ok {ws : List Str} (h : GoodR ws) : okX (Txt.join (Str.ofString "\n") ws ++ Str.ofString "\n") := by
  have hj : (Txt.join (Str.ofString "\n") ws).cps.toList = glue 10 (ws.map fun z => z.cps.toList) := by rw [nl_str, ← join_glue 10 ws]; exact congrArg (fun z : Str => z.cps.toList) (StrLaws.glued_eq_join _ _)
  have hn : (Str.ofString "\n").cps.toList = [10] := by decide +kernel
  rcases h with h | ⟨a, r, rfl, ha, h1, h2⟩
  · refine okX_short ?_
    rw [len_list, app_list, hj, hn, List.length_append]
    have := glue_wt ws
    show _ + 1 ≤ 1000
    omega
  · match r, hj, h2 with
    | [], hj, h2 => exact okX_long (a := a) (b := ⟨#[]⟩) (by rw [app_list, hj, hn]; rfl) ha h1 (by decide)
    | y :: r, hj, h2 =>
      refine okX_long (a := a) (b := ⟨(glue 10 ((y :: r).map fun z : Str => z.cps.toList) ++ [10]).toArray⟩) ?_ ha h1 ?_
      · rw [app_list, hj, hn]
        show a.cps.toList ++ 10 :: glue 10 ((y :: r).map fun z : Str => z.cps.toList) ++ [10] = _
        rw [List.append_assoc]
        rfl
      · rw [len_list]
        show (glue 10 ((y :: r).map fun z : Str => z.cps.toList) ++ [10]).length ≤ 1000
        have := glue_wt (y :: r)
        rw [List.length_append]
        show _ + 1 ≤ 1000
        omega
def spSpoilt : Sp := fun vs H Q _ => ∃ (p : Addr) (zs : List Str) (cell way : Nat), vs = [.ref p, .int (cell : Nat), .int (way : Nat)] ∧ H p = some (.lst (zs.map V.str)) ∧ zs.length = 5 ∧ wt zs ≤ 240 ∧ (∀ z, zs[0]? = some z → 32 ∈ z.cps.toList) ∧ (∀ z ∈ zs, ∀ c ∈ z.cps.toList, c < 128) ∧ ∀ (z : Str) H', okX z → Same H H' → Q (.str z) H'
def SpI (p : Addr) (cell way : Nat) (H : Hp) : St → Hp → Prop := fun σ G => ∃ (a : Int) (o5 o6 o7 o8 o9 : Option V) (pr : Addr) (ws : List Str), σ = [some (.ref p), some (.int (cell : Nat)), some (.int (way : Nat)), some (.int a), some (.ref pr), o5, o6, o7, o8, o9] ∧ 0 ≤ a ∧ a < 5 ∧ Same H G ∧ G pr = some (.lst (ws.map V.str)) ∧ GoodR ws

theorem mulOk_4000 {z : Str} (hz : z.length ≤ 1000) : MulOk z 4000 := by
  refine ⟨by decide, fun hn _ h => ?_, fun hn _ => ?_⟩
  · have : (1000 : Int) ≤ (2 ^ 63 - 1) / 4000 := by decide
    omega
  · show decide (z.length * (4000 : Int).toNat > sizeLine) = false
    have h2 : z.length * (4000 : Int).toNat ≤ 1000 * 4000 := Nat.mul_le_mul hz (by decide)
    rw [sizeLine_eq]
    exact decide_eq_false (by omega)
theorem sc__law_spoilt : FnScope ["_law_lines", "_law_cell", "_law_way", "_law_at", "_law_row", "_law_twice", "_law_place", "_law_some", "_law_number_here", "_law_more"] ["_law_lines", "_law_cell", "_law_way"] (defScope s__law_spoilt) := ⟨rfl, rfl, rfl, by decide +kernel, rfl, by decide +kernel, by decide +kernel⟩
theorem ok__law_spoilt (T : Txt K mg) {f : Addr} {fd : FuncData} (N : Fn K mg "_law_spoilt" s__law_spoilt ["_law_lines", "_law_cell", "_law_way"] f fd) : FnOk P w K mg base CX0 (1) f fd ["_law_lines", "_law_cell", "_law_way"] (spSpoilt) := by
  refine N.fu.okB sc__law_spoilt (fun vs H Q E h => ?_) (fun cdv A outer s H vs Q E hr h => ?_)
  · obtain ⟨p, zs, cell, way, rfl, _⟩ := h
    rfl
  · obtain ⟨p, zs, cell, way, rfl, hp, h5, hw, hbl, hasc, q⟩ := h
    have hz : ∀ z ∈ zs, z.length ≤ 239 := fun z h => by have := wt_mem h; omega
    refine ⟨_, (bss_cons (bs_set (i := 3) sc__law_spoilt.nd rfl (by first | exact Or.inl rfl | exact Or.inr rfl) (b_op op_mod (bv 1) b_int))
    (bss_cons (bs_set (i := 4) sc__law_spoilt.nd rfl (by first | exact Or.inl rfl | exact Or.inr rfl) (b_ix ix_seq (b_lst (ba_c (bv 0) (ba_c (b_op o_add (b_slice s_any (bv 0) bo_none (bo_some (bv 3))) (b_slice s_any (bv 0) (bo_some (b_op o_add (bv 3) b_int)) bo_none)) (ba_c (b_op o_add (b_op o_add (b_slice s_any (bv 0) bo_none (bo_some (bv 3))) (b_slice s_any (bv 0) (bo_some (bv 3)) (bo_some (b_op o_add (bv 3) b_int)))) (b_slice s_any (bv 0) (bo_some (bv 3)) bo_none)) ba_nil rfl) rfl) rfl)) (b_op op_mod (bv 2) b_int) (fun _ _ => rfl)))
    (bss_cons (bs_if (bt_cmp (o_eqD (room100 hr)) (bv 2) b_int (nomark _))
      (bss_one (bs_set (i := 4) sc__law_spoilt.nd rfl (by first | exact Or.inl rfl | exact Or.inr rfl) (b_op o_add (b_op o_add (b_slice s_any (bv 0) bo_none (bo_some (bv 3))) (b_lst (ba_c (b_ix ix_seq (bv 0) (b_op op_mod (b_op o_add (bv 3) b_int) b_int) (fun _ _ => rfl)) ba_nil rfl))) (b_slice s_any (bv 0) (bo_some (b_op o_add (bv 3) b_int)) bo_none))))
      bss_nil)
    (bss_cons (bs_if (bt_cmp (o_eqD (room100 hr)) (bv 2) b_int (nomark _))
      (bss_one (bs_set (i := 4) sc__law_spoilt.nd rfl (by first | exact Or.inl rfl | exact Or.inr rfl) (b_op o_add (bv 0) (b_lst (ba_c (b_ix ix_seq (b_lst (ba_c b_str (ba_c b_str (ba_c b_str (ba_c b_str ba_nil rfl) rfl) rfl) rfl)) (b_op op_mod (b_op op_fdiv (bv 1) b_int) b_int) (fun _ _ => rfl)) ba_nil rfl)))))
      bss_nil)
    (bss_cons (bs_if (bt_cmp (o_eqD (room100 hr)) (bv 2) b_int (nomark _))
      (bss_cons (bs_set (i := 5) sc__law_spoilt.nd rfl (by first | exact Or.inl rfl | exact Or.inr rfl) (b_ix ix_seq (bm_split (b_op o_add (b_ix ix_seq (bv 0) b_int (fun _ _ => rfl)) b_str) (ba_c b_str ba_nil rfl)) b_int (fun _ _ => rfl)))
    (bss_cons (bs_set (i := 6) sc__law_spoilt.nd rfl (by first | exact Or.inl rfl | exact Or.inr rfl) (b_op o_add b_int (b_op op_mod (bv 1) b_int)))
    (bss_one (bs_set (i := 4) sc__law_spoilt.nd rfl (by first | exact Or.inl rfl | exact Or.inr rfl) (b_op o_add (b_op o_add (b_slice s_any (bv 0) bo_none (bo_some (bv 6))) (b_lst (ba_c (b_op o_add (b_op o_add (b_ix ix_seq (bv 0) (bv 6) (fun _ _ => rfl)) b_str) (bv 5)) ba_nil rfl))) (b_slice s_any (bv 0) (bo_some (b_op o_add (bv 6) b_int)) bo_none))))))
      bss_nil)
    (bss_cons (bs_if (bt_cmp (o_eqD (room100 hr)) (bv 2) b_int (nomark _))
      (bss_cons (bs_set (i := 7) sc__law_spoilt.nd rfl (by first | exact Or.inl rfl | exact Or.inr rfl) (b_lst (ba_c b_str (ba_c b_str (ba_c b_str (ba_c b_str (ba_c b_str (ba_c b_str (ba_c (b_op o_add b_str (b_op o_mul b_str b_int)) ba_nil rfl) rfl) rfl) rfl) rfl) rfl) rfl)))
    (bss_one (bs_set (i := 4) sc__law_spoilt.nd rfl (by first | exact Or.inl rfl | exact Or.inr rfl) (b_op o_add (b_lst (ba_c (b_ix ix_seq (bv 7) (b_op op_mod (bv 1) b_int) (fun _ _ => rfl)) ba_nil rfl)) (b_slice s_any (bv 0) (bo_some b_int) bo_none)))))
      bss_nil)
    (bss_cons (bs_if (bt_cmp (o_eqD (room100 hr)) (bv 2) b_int (nomark _))
      (bss_cons (bs_set (i := 7) sc__law_spoilt.nd rfl (by first | exact Or.inl rfl | exact Or.inr rfl) (b_lst (ba_c b_str (ba_c b_str (ba_c b_str (ba_c b_str (ba_c b_str (ba_c b_str ba_nil rfl) rfl) rfl) rfl) rfl) rfl)))
    (bss_one (bs_set (i := 4) sc__law_spoilt.nd rfl (by first | exact Or.inl rfl | exact Or.inr rfl) (b_op o_add (b_op o_add (b_slice s_any (bv 0) bo_none (bo_some b_int)) (b_lst (ba_c (b_ix ix_seq (bv 7) (b_op op_mod (bv 1) b_int) (fun _ _ => rfl)) ba_nil rfl))) (b_slice s_any (bv 0) (bo_some b_int) bo_none)))))
      bss_nil)
    (bss_cons (bs_if (bt_cmp (o_eqD (room100 hr)) (bv 2) b_int (nomark _))
      (bss_cons (bs_set (i := 6) sc__law_spoilt.nd rfl (by first | exact Or.inl rfl | exact Or.inr rfl) (b_op o_add b_int (b_op op_mod (bv 1) b_int)))
    (bss_cons (bs_set (i := 8) sc__law_spoilt.nd rfl (by first | exact Or.inl rfl | exact Or.inr rfl) (b_ix ix_seq (bm_split (b_ix ix_seq (bv 0) b_int (fun _ _ => rfl)) (ba_c b_str ba_nil rfl)) b_int (fun _ _ => rfl)))
    (bss_cons (bs_set (i := 9) sc__law_spoilt.nd rfl (by first | exact Or.inl rfl | exact Or.inr rfl) (b_ix ix_seq (b_lst (ba_c b_str (ba_c (b_op o_add b_str (bv 8)) (ba_c b_str (ba_c b_str (ba_c b_str (ba_c b_str ba_nil rfl) rfl) rfl) rfl) rfl) rfl)) (b_op op_mod (b_op op_fdiv (bv 1) b_int) b_int) (fun _ _ => rfl)))
    (bss_one (bs_set (i := 4) sc__law_spoilt.nd rfl (by first | exact Or.inl rfl | exact Or.inr rfl) (b_op o_add (b_op o_add (b_slice s_any (bv 0) bo_none (bo_some (bv 6))) (b_lst (ba_c (b_op o_add (b_ix ix_seq (bv 0) (bv 6) (fun _ _ => rfl)) (bv 9)) ba_nil rfl))) (b_slice s_any (bv 0) (bo_some (b_op o_add (bv 6) b_int)) bo_none)))))))
      bss_nil)
    (bss_cons (bs_if (bt_cmp (o_eqD (room100 hr)) (bv 2) b_int (nomark _))
      (bss_one (bs_set (i := 4) sc__law_spoilt.nd rfl (by first | exact Or.inl rfl | exact Or.inr rfl) (b_op o_add (b_op o_add (b_slice s_any (bv 0) bo_none (bo_some (bv 3))) (b_lst (ba_c (bm_upper (b_ix ix_seq (bv 0) (bv 3) (fun _ _ => rfl))) ba_nil rfl))) (b_slice s_any (bv 0) (bo_some (b_op o_add (bv 3) b_int)) bo_none))))
      bss_nil)
    (bss_cons (bs_if (bt_cmp (o_eqD (room100 hr)) (bv 2) b_int (nomark _))
      (bss_cons (bs_set (i := 3) sc__law_spoilt.nd rfl (by first | exact Or.inl rfl | exact Or.inr rfl) (b_op o_add b_int (b_op op_mod (bv 1) b_int)))
    (bss_one (bs_set (i := 4) sc__law_spoilt.nd rfl (by first | exact Or.inl rfl | exact Or.inr rfl) (b_op o_add (b_op o_add (b_slice s_any (bv 0) bo_none (bo_some (bv 3))) (b_lst (ba_c (b_op o_add (b_ix ix_seq (bv 0) (bv 3) (fun _ _ => rfl)) b_str) ba_nil rfl))) (b_slice s_any (bv 0) (bo_some (b_op o_add (bv 3) b_int)) bo_none)))))
      bss_nil)
    (bss_one (bs_ret (b_op o_add (bm_join b_str (ba_c (bv 4) ba_nil rfl)) b_str))))))))))))), ?_⟩
    kas_types
    lcg_off
    refine rd_slLG hp (fun w1 p1 H1 l1 n1 s1 g1 => ?_)
    lcg_off
    refine rd_slLG (by lcg_src) (fun w2 p2 H2 l2 n2 s2 g2 => ?_)
    lcg_off
    refine rd_addLG (by lcg_src) g2 (by omega) (fun p3 H3 l3 n3 s3 g3 => ?_)
    lcg_off
    refine rd_slLG (by lcg_src) (fun w4 p4 H4 l4 n4 s4 g4 => ?_)
    lcg_off
    refine rd_slLG (by lcg_src) (fun w5 p5 H5 l5 n5 s5 g5 => ?_)
    lcg_off
    refine rd_addLG (by lcg_src) g5 (by omega) (fun p6 H6 l6 n6 s6 g6 => ?_)
    lcg_off
    refine rd_slLG (by lcg_src) (fun w7 p7 H7 l7 n7 s7 g7 => ?_)
    lcg_off
    refine rd_addLG (by lcg_src) g7 (by omega) (fun p8 H8 l8 n8 s8 g8 => ?_)
    lcg_off
    kaf_suf
    intro v hv
    rename_i p9 H9 n9 s9 g9
    have hI : SpI p cell way H [some (.ref p), some (.int (cell : Nat)), some (.int (way : Nat)), some (.int ((cell : Int) % 5)), some v, none, none, none, none, none] H9 := by
      have e0 : H9 p = some (.lst (zs.map V.str)) := by lcg_src
      have e3 : H9 p3 = some (.lst ((w1 ++ w2).map V.str)) := by lcg_src
      have e8 : H9 p8 = some (.lst ((w4 ++ w5 ++ w7).map V.str)) := by lcg_src
      have sH : Same H H9 := by lcg_sub
      have c0 := Int.emod_nonneg (cell : Int) (show (5 : Int) ≠ 0 by decide)
      have c1 := Int.emod_lt_of_pos (cell : Int) (show (0 : Int) < 5 by decide)
      simp only [List.mem_cons, List.not_mem_nil, or_false] at hv
      rcases hv with rfl | rfl | rfl
      · exact ⟨_, _, _, _, _, _, _, zs, rfl, c0, c1, sH, e0, .inl (by omega)⟩
      · exact ⟨_, _, _, _, _, _, _, _, rfl, c0, c1, sH, e3, .inl (by omega)⟩
      · exact ⟨_, _, _, _, _, _, _, _, rfl, c0, c1, sH, e8, .inl (by omega)⟩
    clear n1 s1 g1 n2 s2 g2 n3 s3 g3 n4 s4 g4 n5 s5 g5 n6 s6 g6 n7 s7 g7 n8 s8 g8 n9 s9 g9 hv l1 l2 l3 l4 l5 l6 l7 l8
    obtain ⟨a, o5, o6, o7, o8, o9, pr, ws, eσ, a0, a1, sG, gr, gG⟩ := hI
    cases eσ
    have hp9 := sG _ _ hp
    lcg_off
    refine ite_both (SpI p cell way H) (fun σ' H' h => ?_) (fun _ nx' hnx => ?_) (fun _ nx' hnx => ?_)
    rotate_left
    · lcg_off
      refine rd_slLG (by lcg_src) (fun w1 p1 H1 l1 n1 s1 g1 => ?_)
      lcg_off
      refine rd_ixLG (by lcg_src) (Int.emod_nonneg _ (by decide)) (by rw [h5]; exact Int.emod_lt_of_pos _ (by decide)) (fun z hzm _ => ?_)
      have hzl := hz z hzm
      have hwz : wt [z] = z.length + 1 := by rw [wt_cons, wt_nil]
      lcg_off
      rename_i py Hy ny sy gy
      refine rd_addLG (ys := [z]) (by lcg_src) gy (by omega) (fun p3 H3 l3 n3 s3 g3 => ?_)
      lcg_off
      refine rd_slLG (by lcg_src) (fun w4 p4 H4 l4 n4 s4 g4 => ?_)
      lcg_off
      refine rd_addLG (by lcg_src) g4 (by omega) (fun p5 H5 l5 n5 s5 g5 => ?_)
      lcg_off
      exact hnx _ _ ⟨_, _, _, _, _, _, p5, _, rfl, a0, a1, by lcg_sub, g5, .inl (by omega)⟩
    · lcg_off
      exact hnx _ _ ⟨_, _, _, _, _, _, pr, ws, rfl, a0, a1, sG, gr, gG⟩
    clear a0 a1 sG gr gG hp9
    obtain ⟨a, o5, o6, o7, o8, o9, pr, ws, rfl, a0, a1, sG, gr, gG⟩ := h
    have hp9 := sG _ _ hp
    lcg_off
    refine ite_both (SpI p cell way H) (fun σ' H' h => ?_) (fun _ nx' hnx => ?_) (fun _ nx' hnx => ?_)
    rotate_left
    · lcg_off
      kaf_suf
      intro v hv
      obtain ⟨z, rfl, hzl⟩ : ∃ z : Str, v = .str z ∧ z.length ≤ 20 := by
        simp only [List.mem_cons, List.not_mem_nil, or_false] at hv
        rcases hv with rfl | rfl | rfl | rfl <;> exact ⟨_, rfl, by decide +kernel⟩
      have hwz : wt [z] = z.length + 1 := by rw [wt_cons, wt_nil]
      lcg_off
      rename_i py Hy ny sy gy
      refine rd_addLG (ys := [z]) (by lcg_src) gy (by omega) (fun p3 H3 l3 n3 s3 g3 => ?_)
      lcg_off
      exact hnx _ _ ⟨_, _, _, _, _, _, p3, _, rfl, a0, a1, by lcg_sub, g3, .inl (by omega)⟩
    · lcg_off
      exact hnx _ _ ⟨_, _, _, _, _, _, pr, ws, rfl, a0, a1, sG, gr, gG⟩
    clear a0 a1 sG gr gG hp9
    obtain ⟨a, o5, o6, o7, o8, o9, pr, ws, rfl, a0, a1, sG, gr, gG⟩ := h
    have hp9 := sG _ _ hp
    lcg_off
    refine ite_both (SpI p cell way H) (fun σ' H' h => ?_) (fun _ nx' hnx => ?_) (fun _ nx' hnx => ?_)
    rotate_left
    · lcg_off
      refine rd_ixLG (by lcg_src) (by decide) (by rw [h5]; decide) (fun z2 hz2 _ => ?_)
      have hz2l := hz z2 hz2
      have l2 : (Str.ofString " 1").length = 2 := by decide +kernel
      lcg_off
      refine rd_addS (by rw [l2, sizeLine_eq]; omega) ?_
      lcg_off
      refine ⟨rfl, ?_⟩
      lcg_off
      refine rd_split (by decide +kernel) (by rw [la, l2, sizeLine_eq]; omega) (fun pq Hq nq sq gq => ?_)
      lcg_off
      refine rd_word (by rw [app_list]; exact List.mem_append_right _ (by decide +kernel)) gq (fun tw htw => ?_)
      rw [la, l2] at htw
      have c0 := Int.emod_nonneg (cell : Int) (show (3 : Int) ≠ 0 by decide)
      have c1 := Int.emod_lt_of_pos (cell : Int) (show (0 : Int) < 3 by decide)
      lcg_off
      refine rd_slLG (by lcg_src) (fun w1 p1 H1 l1 n1 s1 g1 => ?_)
      lcg_off
      refine rd_ixLG (by lcg_src) (by omega) (by rw [h5]; omega) (fun z1 hz1 _ => ?_)
      have hz1l := hz z1 hz1
      have lb : (Str.ofString " ").length = 1 := by decide +kernel
      lcg_off
      refine rd_addG (by omega) (fun z3 hz3 => ?_)
      lcg_off
      refine rd_addG (by omega) (fun z hzl => ?_)
      have hwz : wt [z] = z.length + 1 := by rw [wt_cons, wt_nil]
      lcg_off
      rename_i py Hy ny sy gy
      refine rd_addLG (ys := [z]) (by lcg_src) gy (by omega) (fun p3 H3 l3 n3 s3 g3 => ?_)
      lcg_off
      refine rd_slLG (by lcg_src) (fun w4 p4 H4 l4 n4 s4 g4 => ?_)
      lcg_off
      refine rd_addLG (by lcg_src) g4 (by omega) (fun p5 H5 l5 n5 s5 g5 => ?_)
      lcg_off
      exact hnx _ _ ⟨_, _, _, _, _, _, p5, _, rfl, a0, a1, by lcg_sub, g5, .inl (by omega)⟩
    · lcg_off
      exact hnx _ _ ⟨_, _, _, _, _, _, pr, ws, rfl, a0, a1, sG, gr, gG⟩
    clear a0 a1 sG gr gG hp9
    obtain ⟨a, o5, o6, o7, o8, o9, pr, ws, rfl, a0, a1, sG, gr, gG⟩ := h
    have hp9 := sG _ _ hp
    lcg_off
    refine ite_both (SpI p cell way H) (fun σ' H' h => ?_) (fun _ nx' hnx => ?_) (fun _ nx' hnx => ?_)
    rotate_left
    · have l6 : (Str.ofString "fresh ").length = 6 := by decide +kernel
      have lm : (Txt.mul (Str.ofString "1") 4000).cps.toList = List.replicate 4000 49 := by
        rw [show Str.ofString "1" = ⟨#[49]⟩ by decide +kernel, PyProof.Rows.mul_one_list]
        rfl
      have lml : (Txt.mul (Str.ofString "1") 4000).length = 4000 := by rw [len_list, lm, List.length_replicate]
      lcg_off
      refine rd_mulS ?hmul ?_
      case hmul => exact mulOk_4000 (by decide +kernel)
      refine rd_addS (by rw [l6, lml, sizeLine_eq]; decide) ?_
      obtain ⟨zl, hzl, hzn⟩ : ∃ zl : Str, zl = Str.ofString "fresh " ++ Txt.mul (Str.ofString "1") 4000 ∧ zl.length ≤ 4006 ∧ 10 ∉ zl.cps.toList := by
        refine ⟨_, rfl, by rw [la, l6, lml]; decide, fun hc => ?_⟩
        rw [app_list, lm] at hc
        rcases List.mem_append.mp hc with hc | hc
        · exact absurd hc (by decide +kernel)
        · exact absurd (List.eq_of_mem_replicate hc) (by decide)
      rw [← hzl]
      clear hzl
      lcg_off
      kaf_suf
      intro v hv
      obtain ⟨z, rfl, hzl, hn10⟩ : ∃ z : Str, v = .str z ∧ z.length ≤ 4006 ∧ 10 ∉ z.cps.toList := by
        simp only [List.mem_cons, List.not_mem_nil, or_false] at hv
        rcases hv with rfl | rfl | rfl | rfl | rfl | rfl | rfl
        · exact ⟨_, rfl, by decide +kernel, by decide +kernel⟩
        · exact ⟨_, rfl, by decide +kernel, by decide +kernel⟩
        · exact ⟨_, rfl, by decide +kernel, by decide +kernel⟩
        · exact ⟨_, rfl, by decide +kernel, by decide +kernel⟩
        · exact ⟨_, rfl, by decide +kernel, by decide +kernel⟩
        · exact ⟨_, rfl, by decide +kernel, by decide +kernel⟩
        · exact ⟨_, rfl, hzn.1, hzn.2⟩
      have hwz : wt [z] = z.length + 1 := by rw [wt_cons, wt_nil]
      lcg_off
      rename_i py Hy ny sy gy
      refine rd_slLG (by lcg_src) (fun w4 p4 H4 l4 n4 s4 g4 => ?_)
      lcg_off
      refine rd_addLG (xs := [z]) (s4 _ _ gy) g4 (by omega) (fun p5 H5 l5 n5 s5 g5 => ?_)
      lcg_off
      exact hnx _ _ ⟨_, _, _, _, _, _, p5, _, rfl, a0, a1, by lcg_sub, g5, .inr ⟨z, w4, rfl, hn10, by omega, by omega⟩⟩
    · lcg_off
      exact hnx _ _ ⟨_, _, _, _, _, _, pr, ws, rfl, a0, a1, sG, gr, gG⟩
    clear a0 a1 sG gr gG hp9
    obtain ⟨a, o5, o6, o7, o8, o9, pr, ws, rfl, a0, a1, sG, gr, gG⟩ := h
    have hp9 := sG _ _ hp
    lcg_off
    refine ite_both (SpI p cell way H) (fun σ' H' h => ?_) (fun _ nx' hnx => ?_) (fun _ nx' hnx => ?_)
    rotate_left
    · lcg_off
      refine rd_slLG (by lcg_src) (fun w1 p1 H1 l1 n1 s1 g1 => ?_)
      lcg_off
      kaf_suf
      intro v hv
      obtain ⟨z, rfl, hzl⟩ : ∃ z : Str, v = .str z ∧ z.length ≤ 20 := by
        simp only [List.mem_cons, List.not_mem_nil, or_false] at hv
        rcases hv with rfl | rfl | rfl | rfl | rfl | rfl <;> exact ⟨_, rfl, by decide +kernel⟩
      have hwz : wt [z] = z.length + 1 := by rw [wt_cons, wt_nil]
      lcg_off
      rename_i py Hy ny sy gy
      refine rd_addLG (ys := [z]) (by lcg_src) gy (by omega) (fun p3 H3 l3 n3 s3 g3 => ?_)
      lcg_off
      refine rd_slLG (by lcg_src) (fun w4 p4 H4 l4 n4 s4 g4 => ?_)
      lcg_off
      refine rd_addLG (by lcg_src) g4 (by omega) (fun p5 H5 l5 n5 s5 g5 => ?_)
      lcg_off
      exact hnx _ _ ⟨_, _, _, _, _, _, p5, _, rfl, a0, a1, by lcg_sub, g5, .inl (by omega)⟩
    · lcg_off
      exact hnx _ _ ⟨_, _, _, _, _, _, pr, ws, rfl, a0, a1, sG, gr, gG⟩
    clear a0 a1 sG gr gG hp9
    obtain ⟨a, o5, o6, o7, o8, o9, pr, ws, rfl, a0, a1, sG, gr, gG⟩ := h
    have hp9 := sG _ _ hp
    lcg_off
    refine ite_both (SpI p cell way H) (fun σ' H' h => ?_) (fun _ nx' hnx => ?_) (fun _ nx' hnx => ?_)
    rotate_left
    · have c0 := Int.emod_nonneg (cell : Int) (show (3 : Int) ≠ 0 by decide)
      have c1 := Int.emod_lt_of_pos (cell : Int) (show (0 : Int) < 3 by decide)
      have lb : (Str.ofString " ").length = 1 := by decide +kernel
      lcg_off
      refine rd_ixLG (by lcg_src) (by decide) (by rw [h5]; decide) (fun z2 hz2 hz20 => ?_)
      have hz2l := hz z2 hz2
      have hz2b := hbl z2 hz20
      lcg_off
      refine ⟨rfl, ?_⟩
      lcg_off
      refine rd_split (by decide +kernel) (by rw [sizeLine_eq]; omega) (fun pq Hq nq sq gq => ?_)
      lcg_off
      refine rd_word hz2b gq (fun tw htw => ?_)
      lcg_off
      refine rd_addG (by omega) (fun z3 hz3 => ?_)
      lcg_off
      kaf_suf
      intro v hv
      obtain ⟨zm, rfl, hzm⟩ : ∃ z : Str, v = .str z ∧ z.length ≤ 240 := by
        simp only [List.mem_cons, List.not_mem_nil, or_false] at hv
        rcases hv with rfl | rfl | rfl | rfl | rfl | rfl
        · exact ⟨_, rfl, by decide +kernel⟩
        · exact ⟨_, rfl, by omega⟩
        · exact ⟨_, rfl, by decide +kernel⟩
        · exact ⟨_, rfl, by decide +kernel⟩
        · exact ⟨_, rfl, by decide +kernel⟩
        · exact ⟨_, rfl, by decide +kernel⟩
      lcg_off
      refine rd_slLG (by lcg_src) (fun w1 p1 H1 l1 n1 s1 g1 => ?_)
      lcg_off
      refine rd_ixLG (by lcg_src) (by omega) (by rw [h5]; omega) (fun z1 hz1 _ => ?_)
      have hz1l := hz z1 hz1
      lcg_off
      refine rd_addG (by omega) (fun z hzl => ?_)
      have hwz : wt [z] = z.length + 1 := by rw [wt_cons, wt_nil]
      lcg_off
      rename_i py Hy ny sy gy
      refine rd_addLG (ys := [z]) (by lcg_src) gy (by omega) (fun p3 H3 l3 n3 s3 g3 => ?_)
      lcg_off
      refine rd_slLG (by lcg_src) (fun w4 p4 H4 l4 n4 s4 g4 => ?_)
      lcg_off
      refine rd_addLG (by lcg_src) g4 (by omega) (fun p5 H5 l5 n5 s5 g5 => ?_)
      lcg_off
      exact hnx _ _ ⟨_, _, _, _, _, _, p5, _, rfl, a0, a1, by lcg_sub, g5, .inl (by omega)⟩
    · lcg_off
      exact hnx _ _ ⟨_, _, _, _, _, _, pr, ws, rfl, a0, a1, sG, gr, gG⟩
    clear a0 a1 sG gr gG hp9
    obtain ⟨a, o5, o6, o7, o8, o9, pr, ws, rfl, a0, a1, sG, gr, gG⟩ := h
    have hp9 := sG _ _ hp
    lcg_off
    refine ite_both (SpI p cell way H) (fun σ' H' h => ?_) (fun _ nx' hnx => ?_) (fun _ nx' hnx => ?_)
    rotate_left
    · lcg_off
      refine rd_slLG (by lcg_src) (fun w1 p1 H1 l1 n1 s1 g1 => ?_)
      lcg_off
      refine rd_ixLG (by lcg_src) a0 (by rw [h5]; exact a1) (fun z1 hz1 _ => ?_)
      have hz1l := hz z1 hz1
      refine ⟨rfl, rd_upper (hasc z1 hz1) (by omega) (fun z hzl => ?_)⟩
      have hwz : wt [z] = z.length + 1 := by rw [wt_cons, wt_nil]
      lcg_off
      rename_i py Hy ny sy gy
      refine rd_addLG (ys := [z]) (by lcg_src) gy (by omega) (fun p3 H3 l3 n3 s3 g3 => ?_)
      lcg_off
      refine rd_slLG (by lcg_src) (fun w4 p4 H4 l4 n4 s4 g4 => ?_)
      lcg_off
      refine rd_addLG (by lcg_src) g4 (by omega) (fun p5 H5 l5 n5 s5 g5 => ?_)
      lcg_off
      exact hnx _ _ ⟨_, _, _, _, _, _, p5, _, rfl, a0, a1, by lcg_sub, g5, .inl (by omega)⟩
    · lcg_off
      exact hnx _ _ ⟨_, _, _, _, _, _, pr, ws, rfl, a0, a1, sG, gr, gG⟩
    clear a0 a1 sG gr gG hp9
    obtain ⟨a, o5, o6, o7, o8, o9, pr, ws, rfl, a0, a1, sG, gr, gG⟩ := h
    have hp9 := sG _ _ hp
    lcg_off
    refine ite_both (SpI p cell way H) (fun σ' H' h => ?_) (fun _ nx' hnx => ?_) (fun _ nx' hnx => ?_)
    rotate_left
    · have c0 := Int.emod_nonneg (cell : Int) (show (2 : Int) ≠ 0 by decide)
      have c1 := Int.emod_lt_of_pos (cell : Int) (show (0 : Int) < 2 by decide)
      have l8 : (Str.ofString " 777 778").length = 8 := by decide +kernel
      lcg_off
      refine rd_slLG (by lcg_src) (fun w1 p1 H1 l1 n1 s1 g1 => ?_)
      lcg_off
      refine rd_ixLG (by lcg_src) (by omega) (by rw [h5]; omega) (fun z1 hz1 _ => ?_)
      have hz1l := hz z1 hz1
      lcg_off
      refine rd_addG (by omega) (fun z hzl => ?_)
      have hwz : wt [z] = z.length + 1 := by rw [wt_cons, wt_nil]
      lcg_off
      rename_i py Hy ny sy gy
      refine rd_addLG (ys := [z]) (by lcg_src) gy (by omega) (fun p3 H3 l3 n3 s3 g3 => ?_)
      lcg_off
      refine rd_slLG (by lcg_src) (fun w4 p4 H4 l4 n4 s4 g4 => ?_)
      lcg_off
      refine rd_addLG (by lcg_src) g4 (by omega) (fun p5 H5 l5 n5 s5 g5 => ?_)
      lcg_off
      exact hnx _ _ ⟨_, _, _, _, _, _, p5, _, rfl, by omega, by omega, by lcg_sub, g5, .inl (by omega)⟩
    · lcg_off
      exact hnx _ _ ⟨_, _, _, _, _, _, pr, ws, rfl, a0, a1, sG, gr, gG⟩
    clear a0 a1 sG gr gG hp9
    obtain ⟨a, o5, o6, o7, o8, o9, pr, ws, rfl, a0, a1, sG, gr, gG⟩ := h
    have hp9 := sG _ _ hp
    lcg_off
    have hgw := good_wt gG
    have hgs := wt_sum ws
    have ln : (Str.ofString "\n").length = 1 := by decide +kernel
    refine ⟨rfl, ?_⟩
    lcg_off
    refine ⟨_, pr, ws, rfl, rfl, SqL.of gr, by rw [ln]; omega, ?_⟩
    lcg_off
    refine rd_addS ?_ (q _ _ (good_ok gG) sG)
    have := (good_ok gG).1
    rw [la] at this
    rw [sizeLine_eq]
    omega
theorem spoilt_use {H : Hp} {Q : VK} {E : XK} {p : Addr} {i j : Int} (zs : List Str) (cell way : Nat) (hi : i = (cell : Nat)) (hj : j = (way : Nat)) (h1 : H p = some (.lst (zs.map V.str))) (h2 : zs.length = 5) (h3 : wt zs ≤ 240) (h4 : ∀ z, zs[0]? = some z → 32 ∈ z.cps.toList) (h5 : ∀ z ∈ zs, ∀ c ∈ z.cps.toList, c < 128) (q : ∀ (z : Str) H', okX z → Same H H' → Q (.str z) H') : spSpoilt [.ref p, .int i, .int j] H Q E := ⟨p, zs, cell, way, by rw [hi, hj], h1, h2, h3, h4, h5, q⟩
end
end T53


set_option Elab.async false
set_option linter.all false
set_option maxRecDepth 100000
set_option maxHeartbeats 4000000
namespace T53
open PySem L2
local macro_rules | `(tactic| lcg_src) => `(tactic| first | with_reducible assumption | ((with_reducible refine' Same.get ?s ?e); (case s => with_reducible assumption); (case e => lcg_src)))
local macro_rules | `(tactic| lcg_sub) => `(tactic| first | with_reducible assumption | with_reducible exact Same.refl _ | ((with_reducible refine' Same.tr ?s ?e); (case s => with_reducible assumption); (case e => lcg_sub)))
local macro_rules | `(tactic| keq_rows) => `(tactic| first | with_reducible assumption | with_reducible exact Rep.int' | with_reducible exact Rep.str' | with_reducible exact Rep.bl' | with_reducible exact Rep.non' | ((with_reducible refine' Rep.same ?s ?e); (case s => with_reducible assumption); (case e => keq_rows)) | ((with_reducible refine' Rep.mkT ?c ?_); (case c => lcg_src); keq_hits) | ((with_reducible refine' Rep.mkL ?c ?_); (case c => lcg_src); keq_hits) | ((with_reducible refine' Rep.mkD ?c); (case c => lcg_src)))
local macro_rules | `(tactic| keq_hits) => `(tactic| first | with_reducible assumption | with_reducible exact Reps.nil' | ((with_reducible refine' Reps.cons' ?c ?_); (case c => keq_rows); keq_hits) | ((with_reducible refine' Reps.same ?s ?e); (case s => with_reducible assumption); (case e => keq_hits)))
local macro_rules | `(tactic| tlg_ne) => `(tactic| first | with_reducible assumption | ((with_reducible refine' SqL.of ?c); (case c => lcg_src)) | ((with_reducible refine' SqT.of ?c); (case c => lcg_src)) | ((with_reducible refine' SqL.same ?s ?e); (case s => with_reducible assumption); (case e => tlg_ne)))
local macro_rules | `(tactic| kpc_turns) => `(tactic| first | decide | omega | (constructor <;> first | decide | omega))
local macro_rules | `(tactic| kas_types) => `(tactic| simp only [cxK, cxK', compK, triedK, heldXK, start_cc, start_cn, start_nn])
local macro_rules | `(tactic| kpt_turns) => `(tactic| first
  | refine rd_go ?_
  | ((with_reducible refine' rd_mod ?c ?_); (case c => kpc_turns))
  | ((with_reducible refine' rd_fdiv ?c ?_); (case c => kpc_turns))
  | ((with_reducible refine' rd_mulI ?c ?_); (case c => first | exact .inl (by kpc_turns) | exact .inr (by kpc_turns)))
  | ((with_reducible refine' rd_mkT ?c ?_); (case c => (simp only [List.length_cons, List.length_nil]; decide)); intro _ _ _ _)
  | ((with_reducible refine' rd_mkL ?c ?_); (case c => (simp only [List.length_cons, List.length_nil]; decide)); intro _ _ _ _ _)
  | ((with_reducible refine' rd_ixT ?c ?d ?_); (case c => tlg_ne); (case d => exact rfl))
  | ((with_reducible refine' rd_ixL ?c ?d ?_); (case c => tlg_ne); (case d => exact rfl))
  | ((with_reducible refine' rd_isT ?c ?_); (case c => lcg_src))
  | ((with_reducible refine' rd_isL ?c ?_); (case c => lcg_src))
  | ((with_reducible refine' rd_isD ?c ?_); (case c => lcg_src))
  | ((with_reducible refine' rd_lenT ?c ?_); (case c => tlg_ne))
  | ((with_reducible refine' rd_lenL ?c ?_); (case c => tlg_ne))
  | ((with_reducible refine' rd_lenS ?c ?_); (case c => first | assumption | (show _ ≤ 16777216; decide) | omega))
  | ((with_reducible refine' rd_slT ?c ?d ?_); (case c => tlg_ne); (case d => simp [HT.sIx]; done); intro _ _ _ h; (simp [cutV, HT.sIx] at h))
  | ((with_reducible refine' rd_bmL ?c ?_); (case c => lcg_src))
  | ((with_reducible refine' rd_shr ?c ?_); (case c => omega))
  | ((with_reducible refine' rd_dnew ?_); intro _ _ _ _ _)
  | ((with_reducible refine' rd_pow ?c ?_); (case c => kpc_turns))
  | ((with_reducible refine' rd_exL ?c ?_); (case c => tlg_ne))
  | ((with_reducible refine' rd_exT ?c ?_); (case c => tlg_ne))
  | ((with_reducible refine' rd_exr1 ?c ?_); (case c => kpc_turns))
  | ((with_reducible refine' rd_exr2 ?c ?_); (case c => refine ⟨?_, ?_, ?_, ?_⟩ <;> first | decide | omega))
  | ((with_reducible refine' rd_gTup ?c ?d ?_); (case c => tlg_ne); (case d => exact rfl))
  | ((with_reducible refine' rd_listL ?c ?_); (case c => tlg_ne); intro _ _ _ _ _)
  | ((with_reducible refine' rd_listT ?c ?_); (case c => tlg_ne); intro _ _ _ _ _)
  | ((with_reducible refine' rd_addL ?c ?d ?e ?_); (case c => lcg_src); (case d => lcg_src); (case e => first | (simp only [List.length_cons, List.length_nil]; decide) | (simp only [List.length_cons, List.length_nil, List.length_append, sizeLine_eq]; omega)); intro _ _ _ _ h; (try simp only [List.cons_append, List.nil_append] at h))
  | ((with_reducible refine' rd_addT ?c ?d ?f ?e ?_); (case c => lcg_src); (case d => lcg_src); (case f => (intro h; cases h)); (case e => first | (simp only [List.length_cons, List.length_nil]; decide) | (simp only [List.length_cons, List.length_nil, List.length_append, sizeLine_eq]; omega)); intro _ _ _ h; (try simp only [List.cons_append, List.nil_append] at h)))
local macro_rules | `(tactic| lcg_off) => `(tactic| repeat kpt_turns)
local macro_rules | `(tactic| kaf_pre) => `(tactic| ((with_reducible refine' rd_menu ?c ?a ?b ?_); (case c => tlg_ne); (case a => first | exact Int.emod_nonneg _ (by decide) | omega); (case b => first | exact Int.emod_lt_of_pos _ (by decide) | (simp only [List.length_cons, List.length_nil]; omega))))
local macro_rules | `(tactic| kaf_suf) => `(tactic| ((with_reducible refine' rd_pick ?c ?a ?b ?_); (case c => tlg_ne); (case a => first | exact Int.emod_nonneg _ (by decide) | omega); (case b => first | exact Int.emod_lt_of_pos _ (by decide) | (simp only [List.length_cons, List.length_nil]; omega))))
section
variable {P : Program} {w : World} {K : PySem.W.Frag} {mg : Str → Option Value} {base : Heap}
/-! ### the good text -/
def plainZ (z : Str) : Prop := ∀ c ∈ z.cps.toList, 32 ≤ c ∧ c < 128
theorem plain_app {x y : Str} (h1 : plainZ x) (h2 : plainZ y) : plainZ (x ++ y) := fun c hc => by
  rw [app_list] at hc
  rcases List.mem_append.mp hc with h | h
  · exact h1 c h
  · exact h2 c h
theorem plain_num (n : Nat) : plainZ (numT n) := fun c hc => by
  have := (figB_iff.mp (numT_fig n)).2 c hc
  omega
theorem plain_tail : ∀ ns : List Nat, plainZ (tailB ns)
  | [] => fun c hc => by cases hc
  | n :: ns => plain_app (plain_app (fun c hc => by rw [bl_str] at hc; cases List.mem_singleton.mp hc; decide) (plain_num n)) (plain_tail ns)
theorem plain_of {s : String} (h : ((Str.ofString s).cps.toList.all fun c => decide (32 ≤ c) && decide (c < 128)) = true) : plainZ (Str.ofString s) := fun c hc => by
  have := List.all_eq_true.mp h c hc
  simpa using this
theorem tiersB_plain (f d : Nat) (r0 r1 r2 : List Nat) : ∀ z ∈ tiersB f d r0 r1 r2, plainZ z := fun z hz => by
  have ht : plainZ (Str.ofString "tier") := plain_of (by decide +kernel)
  simp only [tiersB, List.mem_cons, List.not_mem_nil, or_false] at hz
  rcases hz with rfl | rfl | rfl | rfl | rfl
  · exact plain_app (plain_of (by decide +kernel)) (plain_num f)
  · exact plain_app (plain_of (by decide +kernel)) (plain_num d)
  · exact plain_app ht (plain_tail _)
  · exact plain_app ht (plain_tail _)
  · exact plain_app ht (plain_tail _)
theorem tiersB_wt {f d : Nat} {r0 r1 r2 : List Nat} (h : okTiers f d r0 r1 r2) : wt (tiersB f d r0 r1 r2) ≤ 240 := by
  obtain ⟨l0, l1, l2⟩ := ok_le h
  obtain ⟨_, hf, hd, h0, h1, h2, _, _⟩ := h
  have a0 := tierB_len l0
  have a1 := tierB_len l1
  have a2 := tierB_len l2
  have b1 := numT_l7 hf
  have b2 := numT_l9 hd
  simp only [wt, tiersB, List.map_cons, List.map_nil, List.sum_cons, List.sum_nil, freshB, pouredB, la, len_fresh, len_poured]
  omega
theorem tiersB_bl {f d : Nat} {r0 r1 r2 : List Nat} : ∀ z, (tiersB f d r0 r1 r2)[0]? = some z → 32 ∈ z.cps.toList := fun z hz => by
  cases hz
  show 32 ∈ (Str.ofString "fresh " ++ numT f).cps.toList
  rw [app_list]
  exact List.mem_append_left _ (by decide +kernel)
theorem rowsM_good {zs : List Str} (h : ∀ z ∈ zs, plainZ z) : rowsM (rowsS zs) = zs := by
  unfold rowsM
  rw [rowsS_split (fun z hz hc => by have := h z hz 10 hc; omega), List.dropLast_concat]
theorem join_good {zs : List Str} (h : zs ≠ []) : Txt.join (Str.ofString "\n") zs ++ Str.ofString "\n" = rowsS zs := by
  refine str_ext ?_
  rw [app_list, rowsS_ends, show (Txt.join (Str.ofString "\n") zs).cps.toList = glue 10 (zs.map fun z => z.cps.toList) by rw [nl_str, ← join_glue 10 zs]; exact congrArg (fun z : Str => z.cps.toList) (StrLaws.glued_eq_join _ _), show (Str.ofString "\n").cps.toList = [10] by decide +kernel]
  induction zs with
  | nil => exact absurd rfl h
  | cons z zs ih =>
    cases zs with
    | nil => rfl
    | cons y zs =>
      show z.cps.toList ++ 10 :: glue 10 ((y :: zs).map fun z => z.cps.toList) ++ [10] = z.cps.toList ++ 10 :: endsL 10 ((y :: zs).map fun z => z.cps.toList)
      rw [← ih (by simp), List.append_assoc]
      rfl
theorem pre_starts (x y : Str) : Txt.startswith (x ++ y) x = true := (starts_iff _ _).mpr ⟨y.cps.toList, by rw [app_list]⟩
theorem rn_good {ah : Str} {least : Int} {n most : Nat} (h1 : least ≤ (n : Int)) (h2 : n ≤ most) (h3 : most < 10 ^ 20) : rnM (ah ++ numT n) ah least most = some (n : Int) := by
  unfold rnM
  rw [if_pos (pre_starts _ _), slice_tail ah (numT n) rfl]
  exact rf_num h1 h2 h3 (by omega)
theorem rt_good {f : Nat} {ns : List Nat} (hf : f ≤ 9999999) (h : ∀ n ∈ ns, 1 ≤ n ∧ n < f) : rtM (tierB ns) f = some (intsI ns) := by
  have hw : wordsT (tierB ns) = Str.ofString "tier" :: ns.map numT := tier_split ns
  have hm : (ns.map numT).map (tnum f) = ns.map fun n : Nat => some (n : Int) := by
    rw [List.map_map]
    refine List.map_congr_left fun n hn => ?_
    have := h n hn
    show rfM 1 ((f - 1 : Nat) : Int) (Str.ofString (toString ((f - 1 : Nat) : Int))).length (numT n) = _
    exact rf_num (by omega) (by omega) (Nat.lt_of_le_of_lt (show f - 1 ≤ 9999999 by omega) (by decide)) (by omega)
  unfold rtM
  rw [hw, show (Str.ofString "tier" :: ns.map numT).drop 1 = ns.map numT from rfl, hm, if_pos ⟨rfl, fun hn => by obtain ⟨n, _, e⟩ := List.mem_map.mp hn; cases e⟩]
  congr 1
  unfold gotN intsI
  rw [List.map_map]
  rfl
theorem intsI_nodup {ns : List Nat} (h : ns.Nodup) : (intsI ns).Nodup := by
  unfold intsI
  refine List.pairwise_map.mpr (h.imp fun hab e => hab (by omega))
theorem intsI_app (xs ys : List Nat) : intsI (xs ++ ys) = intsI xs ++ intsI ys := by unfold intsI; rw [List.map_append]
theorem intsI_ln (ns : List Nat) : (intsI ns).length = ns.length := by unfold intsI; rw [List.length_map]
theorem tiersM_good {f d : Nat} {r0 r1 r2 : List Nat} (h : okTiers f d r0 r1 r2) : tiersM (rowsS (tiersB f d r0 r1 r2)) = .inr ((f : Int), (d : Int), [intsI r0, intsI r1, intsI r2]) := by
  have hr := rowsM_good (tiersB_plain f d r0 r1 r2)
  obtain ⟨hf1, hf, hd, hl0, hl1, hl2, hnd, hb⟩ := h
  have m0 : ∀ n ∈ r0, 1 ≤ n ∧ n < f := fun n hn => hb n (List.mem_append_left _ (List.mem_append_left _ hn))
  have m1 : ∀ n ∈ r1, 1 ≤ n ∧ n < f := fun n hn => hb n (List.mem_append_left _ (List.mem_append_right _ hn))
  have m2 : ∀ n ∈ r2, 1 ≤ n ∧ n < f := fun n hn => hb n (List.mem_append_right _ hn)
  have nd2 : (r0 ++ r1).Nodup := (List.nodup_append.mp hnd).1
  have nd1 : r0.Nodup := (List.nodup_append.mp nd2).1
  have t0 : lineM (tiersB f d r0 r1 r2) f [] 0 = some (intsI r0) := by
    unfold lineM
    rw [show rowAtM (tiersB f d r0 r1 r2) (0 + 2) = tierB r0 from rfl, rt_good hf m0]
    show (if _ then some (intsI r0) else none) = _
    exact if_pos ⟨intsI_nodup nd1, .inl rfl⟩
  have t1 : lineM (tiersB f d r0 r1 r2) f (intsI r0) 1 = some (intsI r1) := by
    unfold lineM
    rw [show rowAtM (tiersB f d r0 r1 r2) (1 + 2) = tierB r1 from rfl, rt_good hf m1]
    show (if _ then some (intsI r1) else none) = _
    exact if_pos ⟨by rw [← intsI_app]; exact intsI_nodup nd2, .inr (by rw [intsI_ln]; exact hl1)⟩
  have t2 : lineM (tiersB f d r0 r1 r2) f (intsI r0 ++ intsI r1) 2 = some (intsI r2) := by
    unfold lineM
    rw [show rowAtM (tiersB f d r0 r1 r2) (2 + 2) = tierB r2 from rfl, rt_good hf m2]
    show (if _ then some (intsI r2) else none) = _
    exact if_pos ⟨by rw [← intsI_app, ← intsI_app]; exact intsI_nodup hnd, .inr (by rw [intsI_ln]; exact hl2)⟩
  have ra : raM (tiersB f d r0 r1 r2) f = .inr [intsI r0, intsI r1, intsI r2] := by
    unfold raM
    rw [t0]; dsimp only
    rw [t1]; dsimp only
    rw [t2]
  unfold tiersM
  rw [hr, show rowAtM (tiersB f d r0 r1 r2) 0 = Str.ofString "fresh " ++ numT f from rfl, rn_good (by omega) hf (by decide)]
  dsimp only
  rw [show rowAtM (tiersB f d r0 r1 r2) 1 = Str.ofString "poured " ++ numT d from rfl, rn_good (by omega) hd (by decide)]
  dsimp only
  rw [Int.toNat_natCast, ra]
  dsimp only
  exact if_pos rfl
theorem deps_ints : ∀ ns : List Int, D.deps (ns.map D.int) ≤ 0
  | [] => by simp [D.deps]
  | n :: ns => by have := deps_ints ns; rw [List.map_cons]; simp only [D.deps, D.dep]; omega
theorem deps_rows : ∀ rs : List (List Int), D.deps (rs.map rowI) ≤ 1
  | [] => by simp [D.deps]
  | r :: rs => by
    have h1 := deps_rows rs
    have h2 := deps_ints r
    rw [List.map_cons]
    unfold rowI at h1 ⊢
    simp only [D.deps, D.dep]
    omega
theorem tiersD_dep (x : Str) : (tiersD x).dep ≤ 100 := by
  unfold tiersD
  split
  · simp [D.dep]
  · rename_i f d told _
    have := deps_rows told
    unfold tierJ
    simp only [D.dep, D.deps]
    omega

end
end T53


set_option Elab.async false
set_option linter.all false
set_option maxRecDepth 100000
set_option maxHeartbeats 4000000
namespace T53
open PySem L2
local macro_rules | `(tactic| lcg_src) => `(tactic| first | with_reducible assumption | ((with_reducible refine' Same.get ?s ?e); (case s => with_reducible assumption); (case e => lcg_src)))
local macro_rules | `(tactic| lcg_sub) => `(tactic| first | with_reducible assumption | with_reducible exact Same.refl _ | ((with_reducible refine' Same.tr ?s ?e); (case s => with_reducible assumption); (case e => lcg_sub)))
local macro_rules | `(tactic| keq_rows) => `(tactic| first | with_reducible assumption | with_reducible exact Rep.int' | with_reducible exact Rep.str' | with_reducible exact Rep.bl' | with_reducible exact Rep.non' | ((with_reducible refine' Rep.same ?s ?e); (case s => with_reducible assumption); (case e => keq_rows)) | ((with_reducible refine' Rep.mkT ?c ?_); (case c => lcg_src); keq_hits) | ((with_reducible refine' Rep.mkL ?c ?_); (case c => lcg_src); keq_hits) | ((with_reducible refine' Rep.mkD ?c); (case c => lcg_src)))
local macro_rules | `(tactic| keq_hits) => `(tactic| first | with_reducible assumption | with_reducible exact Reps.nil' | ((with_reducible refine' Reps.cons' ?c ?_); (case c => keq_rows); keq_hits) | ((with_reducible refine' Reps.same ?s ?e); (case s => with_reducible assumption); (case e => keq_hits)))
local macro_rules | `(tactic| tlg_ne) => `(tactic| first | with_reducible assumption | ((with_reducible refine' SqL.of ?c); (case c => lcg_src)) | ((with_reducible refine' SqT.of ?c); (case c => lcg_src)) | ((with_reducible refine' SqL.same ?s ?e); (case s => with_reducible assumption); (case e => tlg_ne)))
local macro_rules | `(tactic| kpc_turns) => `(tactic| first | decide | omega | (constructor <;> first | decide | omega))
local macro_rules | `(tactic| kas_types) => `(tactic| simp only [cxK, cxK', compK, triedK, heldXK, start_cc, start_cn, start_nn])
local macro_rules | `(tactic| kpt_turns) => `(tactic| first
  | refine rd_go ?_
  | ((with_reducible refine' rd_mod ?c ?_); (case c => kpc_turns))
  | ((with_reducible refine' rd_fdiv ?c ?_); (case c => kpc_turns))
  | ((with_reducible refine' rd_mulI ?c ?_); (case c => first | exact .inl (by kpc_turns) | exact .inr (by kpc_turns)))
  | ((with_reducible refine' rd_mkT ?c ?_); (case c => (simp only [List.length_cons, List.length_nil]; decide)); intro _ _ _ _)
  | ((with_reducible refine' rd_mkL ?c ?_); (case c => (simp only [List.length_cons, List.length_nil]; decide)); intro _ _ _ _ _)
  | ((with_reducible refine' rd_ixT ?c ?d ?_); (case c => tlg_ne); (case d => exact rfl))
  | ((with_reducible refine' rd_ixL ?c ?d ?_); (case c => tlg_ne); (case d => exact rfl))
  | ((with_reducible refine' rd_isT ?c ?_); (case c => lcg_src))
  | ((with_reducible refine' rd_isL ?c ?_); (case c => lcg_src))
  | ((with_reducible refine' rd_isD ?c ?_); (case c => lcg_src))
  | ((with_reducible refine' rd_lenT ?c ?_); (case c => tlg_ne))
  | ((with_reducible refine' rd_lenL ?c ?_); (case c => tlg_ne))
  | ((with_reducible refine' rd_lenS ?c ?_); (case c => first | assumption | (show _ ≤ 16777216; decide) | omega))
  | ((with_reducible refine' rd_slT ?c ?d ?_); (case c => tlg_ne); (case d => simp [HT.sIx]; done); intro _ _ _ h; (simp [cutV, HT.sIx] at h))
  | ((with_reducible refine' rd_bmL ?c ?_); (case c => lcg_src))
  | ((with_reducible refine' rd_shr ?c ?_); (case c => omega))
  | ((with_reducible refine' rd_dnew ?_); intro _ _ _ _ _)
  | ((with_reducible refine' rd_pow ?c ?_); (case c => kpc_turns))
  | ((with_reducible refine' rd_exL ?c ?_); (case c => tlg_ne))
  | ((with_reducible refine' rd_exT ?c ?_); (case c => tlg_ne))
  | ((with_reducible refine' rd_exr1 ?c ?_); (case c => kpc_turns))
  | ((with_reducible refine' rd_exr2 ?c ?_); (case c => refine ⟨?_, ?_, ?_, ?_⟩ <;> first | decide | omega))
  | ((with_reducible refine' rd_gTup ?c ?d ?_); (case c => tlg_ne); (case d => exact rfl))
  | ((with_reducible refine' rd_listL ?c ?_); (case c => tlg_ne); intro _ _ _ _ _)
  | ((with_reducible refine' rd_listT ?c ?_); (case c => tlg_ne); intro _ _ _ _ _)
  | ((with_reducible refine' rd_addL ?c ?d ?e ?_); (case c => lcg_src); (case d => lcg_src); (case e => first | (simp only [List.length_cons, List.length_nil]; decide) | (simp only [List.length_cons, List.length_nil, List.length_append, sizeLine_eq]; omega)); intro _ _ _ _ h; (try simp only [List.cons_append, List.nil_append] at h))
  | ((with_reducible refine' rd_addT ?c ?d ?f ?e ?_); (case c => lcg_src); (case d => lcg_src); (case f => (intro h; cases h)); (case e => first | (simp only [List.length_cons, List.length_nil]; decide) | (simp only [List.length_cons, List.length_nil, List.length_append, sizeLine_eq]; omega)); intro _ _ _ h; (try simp only [List.cons_append, List.nil_append] at h)))
local macro_rules | `(tactic| lcg_off) => `(tactic| repeat kpt_turns)
local macro_rules | `(tactic| kaf_pre) => `(tactic| ((with_reducible refine' rd_menu ?c ?a ?b ?_); (case c => tlg_ne); (case a => first | exact Int.emod_nonneg _ (by decide) | omega); (case b => first | exact Int.emod_lt_of_pos _ (by decide) | (simp only [List.length_cons, List.length_nil]; omega))))
local macro_rules | `(tactic| kaf_suf) => `(tactic| ((with_reducible refine' rd_pick ?c ?a ?b ?_); (case c => tlg_ne); (case a => first | exact Int.emod_nonneg _ (by decide) | omega); (case b => first | exact Int.emod_lt_of_pos _ (by decide) | (simp only [List.length_cons, List.length_nil]; omega))))
section
variable {P : Program} {w : World} {K : PySem.W.Frag} {mg : Str → Option Value} {base : Heap}
def spLaw (K : PySem.W.Frag) : Sp := fun vs H Q _ => ∃ (a : Addr) (ns : List Int), vs = [.ref a] ∧ SqL K H a (ns.map V.int) ∧ ns.length ≤ 63 ∧ ∀ H', Q (.bl true) H'
theorem sc_law : FnScope ["_law_script", "_law_lines", "_law_good", "_law_k", "_law_way", "_law_cell", "_law_text_here", "_law_found", "_law_due_here"] ["_law_script"] (defScope s_law) := ⟨rfl, rfl, rfl, by decide +kernel, rfl, by decide +kernel, by decide +kernel⟩
theorem ok_law (T : Txt K mg) {f : Addr} {fd : FuncData} (N : Fn K mg "law" s_law ["_law_script"] f fd) : FnOk P w K mg base CX0 (14) f fd ["_law_script"] (spLaw K) := by
  obtain ⟨c, Z⟩ := T.cl
  obtain ⟨_, _, N__law_text⟩ := T.f__law_text
  have G__law_text := ok__law_text (P := P) (w := w) (base := base) T N__law_text 
  obtain ⟨_, _, N__law_tiers⟩ := T.f__law_tiers
  have G__law_tiers := ok__law_tiers (P := P) (w := w) (base := base) T N__law_tiers 
  obtain ⟨_, _, N__law_mixed⟩ := T.f__law_mixed
  have G__law_mixed := ok__law_mixed (P := P) (w := w) (base := base) T N__law_mixed 
  obtain ⟨_, _, N__law_told⟩ := T.f__law_told
  have G__law_told := ok__law_told (P := P) (w := w) (base := base) T Z N__law_told 
  obtain ⟨_, _, N__law_due⟩ := T.f__law_due
  have G__law_due := ok__law_due (P := P) (w := w) (base := base) T N__law_due 
  obtain ⟨_, _, N__law_cell_at⟩ := T.f__law_cell_at
  have G__law_cell_at := ok__law_cell_at (P := P) (w := w) (base := base) T N__law_cell_at 
  obtain ⟨_, _, N__law_signs⟩ := T.f__law_signs
  have G__law_signs := ok__law_signs (P := P) (w := w) (base := base) T N__law_signs 
  obtain ⟨_, _, N__law_spoilt⟩ := T.f__law_spoilt
  have G__law_spoilt := ok__law_spoilt (P := P) (w := w) (base := base) T N__law_spoilt 
  obtain ⟨_, _, N__law_whole⟩ := T.f__law_whole
  have G__law_whole := ok__law_whole (P := P) (w := w) (base := base) T N__law_whole 
  refine N.fu.okB sc_law (fun vs H Q E h => ?_) (fun cdv A outer s H vs Q E hr h => ?_)
  · obtain ⟨a, ns, rfl, _⟩ := h
    rfl
  · obtain ⟨a, ns, rfl, hS, hn, k⟩ := h
    refine ⟨_, (bss_cons (bs_set (i := 1) sc_law.nd rfl (by first | exact Or.inl rfl | exact Or.inr rfl) (b_f N__law_text G__law_text (hr.mono (by first | decide | omega)) (ba_c (b_f N__law_tiers G__law_tiers (hr.mono (by first | decide | omega)) (ba_c (bv 0) ba_nil rfl)) ba_nil rfl)))
    (bss_cons (bs_set (i := 2) sc_law.nd rfl (by first | exact Or.inl rfl | exact Or.inr rfl) (b_op o_add (bm_join b_str (ba_c (bv 1) ba_nil rfl)) b_str))
    (bss_cons (bs_if (bt_w (bw_or (bt_cmp (o_neD (room100 hr)) (b_f N__law_told G__law_told (hr.mono (by first | decide | omega)) (ba_c (bv 2) ba_nil rfl)) (b_f N__law_due G__law_due (hr.mono (by first | decide | omega)) (ba_c (bv 2) ba_nil rfl)) (nomark _)) (bw_or1 (bt_not (bt_val (b_b c_isinst T.b_isinstance (by kernel_rfl) (ba_c (b_f N__law_due G__law_due (hr.mono (by first | decide | omega)) (ba_c (bv 2) ba_nil rfl)) (ba_c (b_ty (T := "tuple") T.b_tuple (by kernel_rfl)) ba_nil rfl) rfl)) (fun _ => rfl))))))
      (bss_one (bs_ret b_bl))
      bss_nil)
    (bss_cons (bs_for PassesOwn.never rfl (bi_r1 T.b_range (ba_c b_int ba_nil rfl)) (bg_name (i := 3) sc_law.nd rfl (by first | exact Or.inl rfl | exact Or.inr rfl))
      (bss_cons (bs_set (i := 4) sc_law.nd rfl (by first | exact Or.inl rfl | exact Or.inr rfl) (b_op op_mod (b_ix ix_seq (b_lst (ba_c (b_f N__law_cell_at G__law_cell_at (hr.mono (by first | decide | omega)) (ba_c (bv 0) (ba_c b_int ba_nil rfl) rfl)) (ba_c (b_f N__law_mixed G__law_mixed (hr.mono (by first | decide | omega)) (ba_c (b_f N__law_cell_at G__law_cell_at (hr.mono (by first | decide | omega)) (ba_c (bv 0) (ba_c b_int ba_nil rfl) rfl)) (ba_c (bv 3) ba_nil rfl) rfl)) ba_nil rfl) rfl)) (b_t c_intB T.b_int (by kernel_rfl) (ba_c (b_cmp op_gt (bv 3) b_int (nomark _)) ba_nil rfl)) (fun _ _ => rfl)) b_int))
    (bss_cons (bs_set (i := 5) sc_law.nd rfl (by first | exact Or.inl rfl | exact Or.inr rfl) (b_f N__law_mixed G__law_mixed (hr.mono (by first | decide | omega)) (ba_c (b_f N__law_cell_at G__law_cell_at (hr.mono (by first | decide | omega)) (ba_c (bv 0) (ba_c b_int ba_nil rfl) rfl)) (ba_c (b_op o_add b_int (bv 3)) ba_nil rfl) rfl)))
    (bss_cons (bs_if (bt_cmp o_lt (bv 4) b_int (nomark _))
      (bss_one (bs_set (i := 6) sc_law.nd rfl (by first | exact Or.inl rfl | exact Or.inr rfl) (b_f N__law_signs G__law_signs (hr.mono (by first | decide | omega)) (ba_c (bv 2) (ba_c (bv 5) (ba_c (bv 4) ba_nil rfl) rfl) rfl))))
      (bss_one (bs_set (i := 6) sc_law.nd rfl (by first | exact Or.inl rfl | exact Or.inr rfl) (b_f N__law_spoilt G__law_spoilt (hr.mono (by first | decide | omega)) (ba_c (bv 1) (ba_c (bv 5) (ba_c (b_op op_sub (bv 4) b_int) ba_nil rfl) rfl) rfl)))))
    (bss_cons (bs_set (i := 7) sc_law.nd rfl (by first | exact Or.inl rfl | exact Or.inr rfl) (b_f N__law_told G__law_told (hr.mono (by first | decide | omega)) (ba_c (bv 6) ba_nil rfl)))
    (bss_cons (bs_set (i := 8) sc_law.nd rfl (by first | exact Or.inl rfl | exact Or.inr rfl) (b_f N__law_due G__law_due (hr.mono (by first | decide | omega)) (ba_c (bv 6) ba_nil rfl)))
    (bss_one (bs_if (bt_w (bw_or (bt_cmp (o_neD (room100 hr)) (bv 7) (bv 8) (nomark _)) (bw_or1 (bt_w (bw_and (bt_val (b_b c_isinst T.b_isinstance (by kernel_rfl) (ba_c (bv 8) (ba_c (b_ty (T := "int") T.b_int (by kernel_rfl)) ba_nil rfl) rfl)) (fun _ => rfl)) (bw_and1 (bt_not (bt_val (b_f N__law_whole G__law_whole (hr.mono (by first | decide | omega)) (ba_c (bv 7) ba_nil rfl)) (fun _ => rfl)))))))))
      (bss_one (bs_ret b_bl))
      bss_nil))))))))
    (bss_one (bs_ret (b_cmp (o_eqD (room100 hr)) (b_f N__law_told G__law_told (hr.mono (by first | decide | omega)) (ba_c (bv 2) ba_nil rfl)) (b_f N__law_due G__law_due (hr.mono (by first | decide | omega)) (ba_c (bv 2) ba_nil rfl)) (nomark _)))))))), ?_⟩
    kas_types
    lcg_off
    refine tiers_use hS hn (fun f' d r0 r1 r2 v1 H1 hok s1 hT => ?_)
    lcg_off
    refine text_use f' d r0 r1 r2 hT hok (fun pl H2 n2 s2 g2 => ?_)
    have hw := tiersB_wt hok
    have hgs := wt_sum (tiersB f' d r0 r1 r2)
    have ln : (Str.ofString "\n").length = 1 := by decide +kernel
    have hjl : (Txt.join (Str.ofString "\n") (tiersB f' d r0 r1 r2) ++ Str.ofString "\n").length ≤ 240 := by
      rw [join_good (by unfold tiersB; simp), rowsS_len]
      show (List.map (fun z => z.length) (tiersB f' d r0 r1 r2)).sum + _ ≤ 240
      omega
    lcg_off
    refine ⟨rfl, ?_⟩
    lcg_off
    refine ⟨_, pl, tiersB f' d r0 r1 r2, rfl, rfl, SqL.of g2, by rw [ln]; omega, ?_⟩
    lcg_off
    refine rd_addS (by rw [la] at hjl; rw [sizeLine_eq]; omega) ?_
    have hMg := tiersM_good hok
    rw [← join_good (zs := tiersB f' d r0 r1 r2) (by unfold tiersB; simp)] at hMg
    generalize Txt.join (Str.ofString "\n") (tiersB f' d r0 r1 r2) ++ Str.ofString "\n" = good at *
    have hgx : okX good := okX_short (by omega)
    have two : ∀ (z : Str) (v1 v2 : V) (G1 G2 : Hp), Rep G1 (tiersD z) v1 → Same G1 G2 → Rep G2 (tiersD z) v2 → ∀ R : VK, R (.bl false) G2 → rNeD v1 v2 G2 R := fun z v1 v2 G1 G2 r1 s r2 R h => ⟨tiersD z, tiersD z, r1.same s, r2, tiersD_dep z, tiersD_dep z, by rw [pyEq_refl]; exact h⟩
    lcg_off
    refine told_use good hgx (fun v3 H3 s3 r3 => ?_)
    lcg_off
    refine due_use good hgx (fun v4 H4 s4 r4 => ?_)
    refine two good v3 v4 H3 H4 r3 s4 r4 _ ?_
    lcg_off
    refine due_use good hgx (fun v5 H5 s5 r5 => ?_)
    have r5' := r5
    rw [tiersD_r hMg] at r5'
    obtain ⟨p5, vs5, rfl, hp5, _⟩ := Rep.tupE r5'
    lcg_off
    have hS5 : SqL K H5 a (ns.map V.int) := by tlg_ne
    have g5 : H5 pl = some (.lst ((tiersB f' d r0 r1 r2).map V.str)) := by lcg_src
    have h5' : Same H H5 := by lcg_sub
    clear s1 s2 s3 s4 s5 g2 n2 r3 r4 r5 r5' hp5 hT
    refine forR (fun i σ G => Same H5 G ∧ ∃ (o3 o4 o5 o6 o7 o8 : Option V), σ = [some (.ref a), some (.ref pl), some (.str good), o3, o4, o5, o6, o7, o8]) ⟨Same.refl _, _, _, _, _, _, _, rfl⟩ (fun i σ G hi h => ?_) (fun σ G h => ?_)
    · obtain ⟨sG, o3, o4, o5, o6, o7, o8, rfl⟩ := h
      have hSG := hS5.same sG
      lcg_off
      refine cell_use (k := 2) hSG rfl ?_
      lcg_off
      refine cell_use (k := 2) hSG rfl ?_
      lcg_off
      refine mixed_use ?_
      lcg_off
      refine rd_intB ?_
      rename_i p6 H6 n6 s6 g6
      obtain ⟨x, hx⟩ : ∃ x : Int, atI [V.int (ns.getD 2 0), V.int (mixed (ns.getD 2 0) (0 + (i : Int)))] (if decide ((0 : Int) < 0 + (i : Int)) = true then 1 else 0) = some (.int x) := by
        split
        · exact ⟨_, atI_nat (j := 1) rfl⟩
        · exact ⟨_, atI_nat (j := 0) rfl⟩
      refine rd_ixL (SqL.of g6) hx ?_
      lcg_off
      obtain ⟨way, hway, hwl⟩ : ∃ way : Nat, x % 15 = (way : Int) ∧ way < 15 := ⟨(x % 15).toNat, by omega, by omega⟩
      rw [hway]
      clear hx hway
      have hSG6 := hSG.same s6
      refine cell_use (k := 3) hSG6 rfl ?_
      lcg_off
      refine mixed_use ?_
      obtain ⟨mb0, mb1⟩ := mixed_bound (ns.getD 3 0) (5 + (0 + (i : Int)))
      obtain ⟨cell, hcell⟩ : ∃ cell : Nat, mixed (ns.getD 3 0) (5 + (0 + (i : Int))) = (cell : Int) := ⟨(mixed (ns.getD 3 0) (5 + (0 + (i : Int)))).toNat, by omega⟩
      rw [hcell]
      clear hcell mb0 mb1
      lcg_off
      have s56 : Same H5 H6 := sG.trans s6
      have g56 := s56 _ _ g5
      refine ite_both (fun σ' G' => ∃ z : Str, okX z ∧ Same H5 G' ∧ σ' = [some (.ref a), some (.ref pl), some (.str good), some (.int (0 + (i : Int))), some (.int (way : Nat)), some (.int (cell : Nat)), some (.str z), o7, o8]) (fun σ' G' h => ?_) (fun hlt nx' hnx => ?_) (fun hlt nx' hnx => ?_)
      rotate_left
      · have hlt' : way < 4 := by have z := of_decide_eq_true hlt; omega
        lcg_off
        refine signs_use good cell way rfl rfl (by omega) hlt' (fun z G3 hz s3 => ?_)
        lcg_off
        exact hnx _ _ ⟨z, okX_short (by omega), s56.trans s3, rfl⟩
      · have hge : 4 ≤ way := by have z : ¬ ((way : Int) < 4) := fun c => hlt (decide_eq_true c); omega
        lcg_off
        refine spoilt_use (tiersB f' d r0 r1 r2) cell (way - 4) rfl (by omega) g56 rfl hw tiersB_bl (fun z hz c hc => (tiersB_plain f' d r0 r1 r2 z hz c hc).2) (fun z G3 hz s3 => ?_)
        lcg_off
        exact hnx _ _ ⟨z, hz, s56.trans s3, rfl⟩
      obtain ⟨z, hz, sG', rfl⟩ := h
      lcg_off
      refine told_use z hz (fun v1 G4 s4 r4 => ?_)
      lcg_off
      refine due_use z hz (fun v2 G5 s5 r5 => ?_)
      lcg_off
      refine two z v1 v2 G4 G5 r4 s5 r5 _ ?_
      lcg_off
      cases hM : tiersM z with
      | inl l =>
        have e := tiersD_l hM
        rw [e] at r4 r5
        simp only [Rep] at r4 r5
        subst r4 r5
        lcg_off
        refine whole_use ?_
        lcg_off
        exact ⟨by lcg_sub, _, _, _, _, _, _, rfl⟩
      | inr t =>
        obtain ⟨x1, x2, x3⟩ := t
        have e := tiersD_r hM
        rw [e] at r4 r5
        obtain ⟨p5, vs5, rfl, hp5, _⟩ := Rep.tupE r5
        lcg_off
        exact ⟨by lcg_sub, _, _, _, _, _, _, rfl⟩
    · obtain ⟨sG, o3, o4, o5, o6, o7, o8, rfl⟩ := h
      lcg_off
      refine told_use good hgx (fun v1 G4 s4 r4 => ?_)
      lcg_off
      refine due_use good hgx (fun v2 G5 s5 r5 => ?_)
      refine ⟨tiersD good, tiersD good, r4.same s5, r5, tiersD_dep _, tiersD_dep _, ?_⟩
      rw [pyEq_refl]
      exact k _
end
theorem all_mk {l : PySem.W.OpenLaw} {w : World} {K : PySem.W.Frag} {h : Heap} {mg : Str → Option Value} {fa f1 f2 f3 f4 f5 f6 f7 f8 f9 f10 f11 f12 f13 f14 f15 f16 f17 f18 f19 f20 f21 f22 f23 f24 : Addr} (X : K.In h) (G : h.Ns mainGlobals mg) (hfa : mg "law" = some (.ref fa))
    {od1 an1 : Option Addr} {sl1 : Array (Option Value)} {oc1 kV1 dc1 pm1 cd1 ct1 : Value}
    {od2 an2 : Option Addr} {sl2 : Array (Option Value)} {oc2 kV2 dc2 pm2 cd2 ct2 : Value}
    {od3 an3 : Option Addr} {sl3 : Array (Option Value)} {oc3 kV3 dc3 pm3 cd3 ct3 : Value}
    {od4 an4 : Option Addr} {sl4 : Array (Option Value)} {oc4 kV4 dc4 pm4 cd4 ct4 : Value}
    {od5 an5 : Option Addr} {sl5 : Array (Option Value)} {oc5 kV5 dc5 pm5 cd5 ct5 : Value}
    {od6 an6 : Option Addr} {sl6 : Array (Option Value)} {oc6 kV6 dc6 pm6 cd6 ct6 : Value}
    {od7 an7 : Option Addr} {sl7 : Array (Option Value)} {oc7 kV7 dc7 pm7 cd7 ct7 : Value}
    {od8 an8 : Option Addr} {sl8 : Array (Option Value)} {oc8 kV8 dc8 pm8 cd8 ct8 : Value}
    {od9 an9 : Option Addr} {sl9 : Array (Option Value)} {oc9 kV9 dc9 pm9 cd9 ct9 : Value}
    {od10 an10 : Option Addr} {sl10 : Array (Option Value)} {oc10 kV10 dc10 pm10 cd10 ct10 : Value}
    {od11 an11 : Option Addr} {sl11 : Array (Option Value)} {oc11 kV11 dc11 pm11 cd11 ct11 : Value}
    {od12 an12 : Option Addr} {sl12 : Array (Option Value)} {oc12 kV12 dc12 pm12 cd12 ct12 : Value}
    {od13 an13 : Option Addr} {sl13 : Array (Option Value)} {oc13 kV13 dc13 pm13 cd13 ct13 : Value}
    {od14 an14 : Option Addr} {sl14 : Array (Option Value)} {oc14 kV14 dc14 pm14 cd14 ct14 : Value}
    {od15 an15 : Option Addr} {sl15 : Array (Option Value)} {oc15 kV15 dc15 pm15 cd15 ct15 : Value}
    {od16 an16 : Option Addr} {sl16 : Array (Option Value)} {oc16 kV16 dc16 pm16 cd16 ct16 : Value}
    {od17 an17 : Option Addr} {sl17 : Array (Option Value)} {oc17 kV17 dc17 pm17 cd17 ct17 : Value}
    {od18 an18 : Option Addr} {sl18 : Array (Option Value)} {oc18 kV18 dc18 pm18 cd18 ct18 : Value}
    {od19 an19 : Option Addr} {sl19 : Array (Option Value)} {oc19 kV19 dc19 pm19 cd19 ct19 : Value}
    {od20 an20 : Option Addr} {sl20 : Array (Option Value)} {oc20 kV20 dc20 pm20 cd20 ct20 : Value}
    {od21 an21 : Option Addr} {sl21 : Array (Option Value)} {oc21 kV21 dc21 pm21 cd21 ct21 : Value}
    {od22 an22 : Option Addr} {sl22 : Array (Option Value)} {oc22 kV22 dc22 pm22 cd22 ct22 : Value}
    {od23 an23 : Option Addr} {sl23 : Array (Option Value)} {oc23 kV23 dc23 pm23 cd23 ct23 : Value}
    {od24 an24 : Option Addr} {sl24 : Array (Option Value)} {oc24 kV24 dc24 pm24 cd24 ct24 : Value}
    {tk0 : Tok}
    {tk1 : Tok}
    {tk2 : Tok}
    {tk3 : Tok}
    {tk4 : Tok}
    {tk5 : Tok}
    {tk6 : Tok}
    (a1 : PySem.W.nsIn K mainGlobals "are_figures" = some (some (.ref f1))) (l1 : K.lookup f1 = some ⟨oc1, od1, .func (PySem.W.fnOf "are_figures" "are_figures" (defArgs s_are_figures) (defBody s_are_figures) (defScope s_are_figures) .none kV1 dc1 pm1 an1 cd1 ct1), sl1⟩) (c1 : PySem.W.codeIn K cd1 "are_figures" = true) (k1 : PySem.W.keepIn K (.ref f1) = true)
    (a2 : PySem.W.nsIn K mainGlobals "read_padded" = some (some (.ref f2))) (l2 : K.lookup f2 = some ⟨oc2, od2, .func (PySem.W.fnOf "read_padded" "read_padded" (defArgs s_read_padded) (defBody s_read_padded) (defScope s_read_padded) .none kV2 dc2 pm2 an2 cd2 ct2), sl2⟩) (c2 : PySem.W.codeIn K cd2 "read_padded" = true) (k2 : PySem.W.keepIn K (.ref f2) = true)
    (a3 : PySem.W.nsIn K mainGlobals "read_figures" = some (some (.ref f3))) (l3 : K.lookup f3 = some ⟨oc3, od3, .func (PySem.W.fnOf "read_figures" "read_figures" (defArgs s_read_figures) (defBody s_read_figures) (defScope s_read_figures) .none kV3 dc3 pm3 an3 cd3 ct3), sl3⟩) (c3 : PySem.W.codeIn K cd3 "read_figures" = true) (k3 : PySem.W.keepIn K (.ref f3) = true)
    (a4 : PySem.W.nsIn K mainGlobals "text_of_rows" = some (some (.ref f4))) (l4 : K.lookup f4 = some ⟨oc4, od4, .func (PySem.W.fnOf "text_of_rows" "text_of_rows" (defArgs s_text_of_rows) (defBody s_text_of_rows) (defScope s_text_of_rows) .none kV4 dc4 pm4 an4 cd4 ct4), sl4⟩) (c4 : PySem.W.codeIn K cd4 "text_of_rows" = true) (k4 : PySem.W.keepIn K (.ref f4) = true)
    (a5 : PySem.W.nsIn K mainGlobals "rows_of" = some (some (.ref f5))) (l5 : K.lookup f5 = some ⟨oc5, od5, .func (PySem.W.fnOf "rows_of" "rows_of" (defArgs s_rows_of) (defBody s_rows_of) (defScope s_rows_of) .none kV5 dc5 pm5 an5 cd5 ct5), sl5⟩) (c5 : PySem.W.codeIn K cd5 "rows_of" = true) (k5 : PySem.W.keepIn K (.ref f5) = true)
    (a6 : PySem.W.nsIn K mainGlobals "row_at" = some (some (.ref f6))) (l6 : K.lookup f6 = some ⟨oc6, od6, .func (PySem.W.fnOf "row_at" "row_at" (defArgs s_row_at) (defBody s_row_at) (defScope s_row_at) .none kV6 dc6 pm6 an6 cd6 ct6), sl6⟩) (c6 : PySem.W.codeIn K cd6 "row_at" = true) (k6 : PySem.W.keepIn K (.ref f6) = true)
    (a7 : PySem.W.nsIn K mainGlobals "read_number" = some (some (.ref f7))) (l7 : K.lookup f7 = some ⟨oc7, od7, .func (PySem.W.fnOf "read_number" "read_number" (defArgs s_read_number) (defBody s_read_number) (defScope s_read_number) .none kV7 dc7 pm7 an7 cd7 ct7), sl7⟩) (c7 : PySem.W.codeIn K cd7 "read_number" = true) (k7 : PySem.W.keepIn K (.ref f7) = true)
    (a8 : PySem.W.nsIn K mainGlobals "read_tier" = some (some (.ref f8))) (l8 : K.lookup f8 = some ⟨oc8, od8, .func (PySem.W.fnOf "read_tier" "read_tier" (defArgs s_read_tier) (defBody s_read_tier) (defScope s_read_tier) .none kV8 dc8 pm8 an8 cd8 ct8), sl8⟩) (c8 : PySem.W.codeIn K cd8 "read_tier" = true) (k8 : PySem.W.keepIn K (.ref f8) = true)
    (a9 : PySem.W.nsIn K mainGlobals "are_unlike" = some (some (.ref f9))) (l9 : K.lookup f9 = some ⟨oc9, od9, .func (PySem.W.fnOf "are_unlike" "are_unlike" (defArgs s_are_unlike) (defBody s_are_unlike) (defScope s_are_unlike) .none kV9 dc9 pm9 an9 cd9 ct9), sl9⟩) (c9 : PySem.W.codeIn K cd9 "are_unlike" = true) (k9 : PySem.W.keepIn K (.ref f9) = true)
    (a10 : PySem.W.nsIn K mainGlobals "read_all_tiers" = some (some (.ref f10))) (l10 : K.lookup f10 = some ⟨oc10, od10, .func (PySem.W.fnOf "read_all_tiers" "read_all_tiers" (defArgs s_read_all_tiers) (defBody s_read_all_tiers) (defScope s_read_all_tiers) .none kV10 dc10 pm10 an10 cd10 ct10), sl10⟩) (c10 : PySem.W.codeIn K cd10 "read_all_tiers" = true) (k10 : PySem.W.keepIn K (.ref f10) = true)
    (a11 : PySem.W.nsIn K mainGlobals "read_tiers" = some (some (.ref f11))) (l11 : K.lookup f11 = some ⟨oc11, od11, .func (PySem.W.fnOf "read_tiers" "read_tiers" (defArgs s_read_tiers) (defBody s_read_tiers) (defScope s_read_tiers) .none kV11 dc11 pm11 an11 cd11 ct11), sl11⟩) (c11 : PySem.W.codeIn K cd11 "read_tiers" = true) (k11 : PySem.W.keepIn K (.ref f11) = true)
    (a12 : PySem.W.nsIn K mainGlobals "_law_whole" = some (some (.ref f12))) (l12 : K.lookup f12 = some ⟨oc12, od12, .func (PySem.W.fnOf "_law_whole" "_law_whole" (defArgs s__law_whole) (defBody s__law_whole) (defScope s__law_whole) .none kV12 dc12 pm12 an12 cd12 ct12), sl12⟩) (c12 : PySem.W.codeIn K cd12 "_law_whole" = true) (k12 : PySem.W.keepIn K (.ref f12) = true)
    (a13 : PySem.W.nsIn K mainGlobals "_law_cell_at" = some (some (.ref f13))) (l13 : K.lookup f13 = some ⟨oc13, od13, .func (PySem.W.fnOf "_law_cell_at" "_law_cell_at" (defArgs s__law_cell_at) (defBody s__law_cell_at) (defScope s__law_cell_at) .none kV13 dc13 pm13 an13 cd13 ct13), sl13⟩) (c13 : PySem.W.codeIn K cd13 "_law_cell_at" = true) (k13 : PySem.W.keepIn K (.ref f13) = true)
    (a14 : PySem.W.nsIn K mainGlobals "_law_mixed" = some (some (.ref f14))) (l14 : K.lookup f14 = some ⟨oc14, od14, .func (PySem.W.fnOf "_law_mixed" "_law_mixed" (defArgs s__law_mixed) (defBody s__law_mixed) (defScope s__law_mixed) .none kV14 dc14 pm14 an14 cd14 ct14), sl14⟩) (c14 : PySem.W.codeIn K cd14 "_law_mixed" = true) (k14 : PySem.W.keepIn K (.ref f14) = true)
    (a15 : PySem.W.nsIn K mainGlobals "_law_tiers" = some (some (.ref f15))) (l15 : K.lookup f15 = some ⟨oc15, od15, .func (PySem.W.fnOf "_law_tiers" "_law_tiers" (defArgs s__law_tiers) (defBody s__law_tiers) (defScope s__law_tiers) .none kV15 dc15 pm15 an15 cd15 ct15), sl15⟩) (c15 : PySem.W.codeIn K cd15 "_law_tiers" = true) (k15 : PySem.W.keepIn K (.ref f15) = true)
    (a16 : PySem.W.nsIn K mainGlobals "_law_text" = some (some (.ref f16))) (l16 : K.lookup f16 = some ⟨oc16, od16, .func (PySem.W.fnOf "_law_text" "_law_text" (defArgs s__law_text) (defBody s__law_text) (defScope s__law_text) .none kV16 dc16 pm16 an16 cd16 ct16), sl16⟩) (c16 : PySem.W.codeIn K cd16 "_law_text" = true) (k16 : PySem.W.keepIn K (.ref f16) = true)
    (a17 : PySem.W.nsIn K mainGlobals "_law_number" = some (some (.ref f17))) (l17 : K.lookup f17 = some ⟨oc17, od17, .func (PySem.W.fnOf "_law_number" "_law_number" (defArgs s__law_number) (defBody s__law_number) (defScope s__law_number) .none kV17 dc17 pm17 an17 cd17 ct17), sl17⟩) (c17 : PySem.W.codeIn K cd17 "_law_number" = true) (k17 : PySem.W.keepIn K (.ref f17) = true)
    (a18 : PySem.W.nsIn K mainGlobals "_law_line" = some (some (.ref f18))) (l18 : K.lookup f18 = some ⟨oc18, od18, .func (PySem.W.fnOf "_law_line" "_law_line" (defArgs s__law_line) (defBody s__law_line) (defScope s__law_line) .none kV18 dc18 pm18 an18 cd18 ct18), sl18⟩) (c18 : PySem.W.codeIn K cd18 "_law_line" = true) (k18 : PySem.W.keepIn K (.ref f18) = true)
    (a19 : PySem.W.nsIn K mainGlobals "_law_due" = some (some (.ref f19))) (l19 : K.lookup f19 = some ⟨oc19, od19, .func (PySem.W.fnOf "_law_due" "_law_due" (defArgs s__law_due) (defBody s__law_due) (defScope s__law_due) .none kV19 dc19 pm19 an19 cd19 ct19), sl19⟩) (c19 : PySem.W.codeIn K cd19 "_law_due" = true) (k19 : PySem.W.keepIn K (.ref f19) = true)
    (a20 : PySem.W.nsIn K mainGlobals "_law_signs" = some (some (.ref f20))) (l20 : K.lookup f20 = some ⟨oc20, od20, .func (PySem.W.fnOf "_law_signs" "_law_signs" (defArgs s__law_signs) (defBody s__law_signs) (defScope s__law_signs) .none kV20 dc20 pm20 an20 cd20 ct20), sl20⟩) (c20 : PySem.W.codeIn K cd20 "_law_signs" = true) (k20 : PySem.W.keepIn K (.ref f20) = true)
    (a21 : PySem.W.nsIn K mainGlobals "_law_spoilt" = some (some (.ref f21))) (l21 : K.lookup f21 = some ⟨oc21, od21, .func (PySem.W.fnOf "_law_spoilt" "_law_spoilt" (defArgs s__law_spoilt) (defBody s__law_spoilt) (defScope s__law_spoilt) .none kV21 dc21 pm21 an21 cd21 ct21), sl21⟩) (c21 : PySem.W.codeIn K cd21 "_law_spoilt" = true) (k21 : PySem.W.keepIn K (.ref f21) = true)
    (a22 : PySem.W.nsIn K mainGlobals "_law_told" = some (some (.ref f22))) (l22 : K.lookup f22 = some ⟨oc22, od22, .func (PySem.W.fnOf "_law_told" "_law_told" (defArgs s__law_told) (defBody s__law_told) (defScope s__law_told) .none kV22 dc22 pm22 an22 cd22 ct22), sl22⟩) (c22 : PySem.W.codeIn K cd22 "_law_told" = true) (k22 : PySem.W.keepIn K (.ref f22) = true)
    (a23 : PySem.W.nsIn K mainGlobals "_law_field" = some (some (.ref f23))) (l23 : K.lookup f23 = some ⟨oc23, od23, .func (PySem.W.fnOf "_law_field" "_law_field" (defArgs s__law_field) (defBody s__law_field) (defScope s__law_field) .none kV23 dc23 pm23 an23 cd23 ct23), sl23⟩) (c23 : PySem.W.codeIn K cd23 "_law_field" = true) (k23 : PySem.W.keepIn K (.ref f23) = true)
    (a24 : PySem.W.nsIn K mainGlobals "law" = some (some (.ref f24))) (l24 : K.lookup f24 = some ⟨oc24, od24, .func (PySem.W.fnOf "law" "law" (defArgs s_law) (defBody s_law) (defScope s_law) .none kV24 dc24 pm24 an24 cd24 ct24), sl24⟩) (c24 : PySem.W.codeIn K cd24 "law" = true) (k24 : PySem.W.keepIn K (.ref f24) = true)
    (g0 : PySem.W.nsIn K mainGlobals "FIGURES" = some (some (Value.str (PySem.Str.ofString "0123456789") tk0)))
    (g1 : PySem.W.nsIn K mainGlobals "GREATEST_STAMP" = some (some (Value.int 999999999 tk1)))
    (g2 : PySem.W.nsIn K mainGlobals "GREATEST_NUMBER" = some (some (Value.int 9999999 tk2)))
    (g3 : PySem.W.nsIn K mainGlobals "FRESH_LINE" = some (some (Value.int 1 tk3)))
    (g4 : PySem.W.nsIn K mainGlobals "POURED_LINE" = some (some (Value.int 2 tk4)))
    (g5 : PySem.W.nsIn K mainGlobals "FIRST_TIER_LINE" = some (some (Value.int 3 tk5)))
    (g6 : PySem.W.nsIn K mainGlobals "LAST_LINE" = some (some (Value.int 5 tk6)))
    (z0 : PySem.W.nsIn K mainGlobals "ValueError" = some none)
    (z1 : PySem.W.nsIn K mainGlobals "all" = some none)
    (z2 : PySem.W.nsIn K mainGlobals "bool" = some none)
    (z3 : PySem.W.nsIn K mainGlobals "e" = some none)
    (z4 : PySem.W.nsIn K mainGlobals "int" = some none)
    (z5 : PySem.W.nsIn K mainGlobals "isinstance" = some none)
    (z6 : PySem.W.nsIn K mainGlobals "len" = some none)
    (z7 : PySem.W.nsIn K mainGlobals "max" = some none)
    (z8 : PySem.W.nsIn K mainGlobals "min" = some none)
    (z9 : PySem.W.nsIn K mainGlobals "range" = some none)
    (z10 : PySem.W.nsIn K mainGlobals "set" = some none)
    (z11 : PySem.W.nsIn K mainGlobals "str" = some none)
    (z12 : PySem.W.nsIn K mainGlobals "tuple" = some none)
    {CTierError CBadKey CBadValue CBadDeed CBadStamp CBadSieve CBadRow CBadRun CBadJournal CBadTiers CNoFile CStopped CNoSnapshot CBadFile : Addr}
    (m_TierError : PySem.W.nsIn K mainGlobals "TierError" = some (some (.ref CTierError)))
    (m_BadKey : PySem.W.nsIn K mainGlobals "BadKey" = some (some (.ref CBadKey)))
    (m_BadValue : PySem.W.nsIn K mainGlobals "BadValue" = some (some (.ref CBadValue)))
    (m_BadDeed : PySem.W.nsIn K mainGlobals "BadDeed" = some (some (.ref CBadDeed)))
    (m_BadStamp : PySem.W.nsIn K mainGlobals "BadStamp" = some (some (.ref CBadStamp)))
    (m_BadSieve : PySem.W.nsIn K mainGlobals "BadSieve" = some (some (.ref CBadSieve)))
    (m_BadRow : PySem.W.nsIn K mainGlobals "BadRow" = some (some (.ref CBadRow)))
    (m_BadRun : PySem.W.nsIn K mainGlobals "BadRun" = some (some (.ref CBadRun)))
    (m_BadJournal : PySem.W.nsIn K mainGlobals "BadJournal" = some (some (.ref CBadJournal)))
    (m_BadTiers : PySem.W.nsIn K mainGlobals "BadTiers" = some (some (.ref CBadTiers)))
    (m_NoFile : PySem.W.nsIn K mainGlobals "NoFile" = some (some (.ref CNoFile)))
    (m_Stopped : PySem.W.nsIn K mainGlobals "Stopped" = some (some (.ref CStopped)))
    (m_NoSnapshot : PySem.W.nsIn K mainGlobals "NoSnapshot" = some (some (.ref CNoSnapshot)))
    (m_BadFile : PySem.W.nsIn K mainGlobals "BadFile" = some (some (.ref CBadFile)))
    {CBadTiers_init : Addr} {odIBadTiers anIBadTiers : Option Addr} {slIBadTiers : Array (Option Value)} {ocIBadTiers kVIBadTiers dcIBadTiers pmIBadTiers cdIBadTiers ctIBadTiers : Value}
    (ai_BadTiers : PySem.W.findIn K (.ref CBadTiers) "__init__" = some (some (.ref CBadTiers_init))) (li_BadTiers : K.lookup CBadTiers_init = some ⟨ocIBadTiers, odIBadTiers, .func (PySem.W.fnOf "__init__" "BadTiers.__init__" (defArgs s_BadTiers_init) (defBody s_BadTiers_init) (defScope s_BadTiers_init) .none kVIBadTiers dcIBadTiers pmIBadTiers anIBadTiers cdIBadTiers ctIBadTiers), slIBadTiers⟩) (ci_BadTiers : PySem.W.codeIn K cdIBadTiers "BadTiers.__init__" = true) (ki_BadTiers : PySem.W.keepIn K (.ref CBadTiers_init) = true)
    (allc : (excInI K CBadTiers veMro "ValueError.__new__" CBadTiers_init, PySem.W.readsIn K CTierError (.type "type"), PySem.W.findCls K (.ref CTierError) (.type "type") "__init__", PySem.W.specialIn K (.ref CTierError) "__getattribute__", excFd K CBadTiers, PySem.W.mroIn K CBadTiers (.type "object"), PySem.W.findIn K (.ref CBadTiers) "__setattr__", PySem.W.findIn K (.ref CBadTiers) "line", PySem.W.kitCls K (.ref CBadTiers) (.ref CTierError), PySem.W.kitCls K (.ref CTierError) (.type "BaseException"), PySem.W.kitCls K (.ref CBadTiers) (.type "BaseException"), PySem.W.findIn K (.ref CBadTiers) "__getattribute__", PySem.W.findIn K (.ref CBadTiers) "__getattr__", PySem.W.mroIn K CBadTiers (.type "BaseException"), PySem.W.findIn K (.ref CBadTiers) "__class__", PySem.W.specialIn K (.builtin "object.__class__") "__get__", PySem.W.takesIn K (.builtin "object.__class__"), PySem.W.kitCls K (.ref CBadTiers) (.ref CBadTiers), PySem.W.kitAny K (.ref CBadTiers) [.ref CBadDeed, .ref CBadFile, .ref CBadJournal, .ref CBadKey, .ref CBadRow, .ref CBadRun, .ref CBadSieve, .ref CBadStamp], PySem.W.kitAny K (.ref CBadTiers) [.ref CBadValue, .ref CNoFile, .ref CNoSnapshot, .ref CStopped], PySem.W.kitOne K (.ref CBadTiers) (.type "ValueError"), PySem.W.hasDictIn K CBadTiers) = (true, true, some (.val (.builtin "ValueError.__init__")), some (some (.builtin "type.__getattribute__")), true, some true, some (some (.builtin "object.__setattr__")), some none, some true, some true, some true, some (some (.builtin "BaseException.__getattribute__")), some none, some true, some (some (.builtin "object.__class__")), some (some (.builtin "getset_descriptor.__get__")), some true, some true, some false, some false, some true, true))
    : ∃ fd : FuncData, (∀ (s : Shared) (v : Value), BindsTo s fd ⟨[v], []⟩ [("_law_script", v)]) ∧ ∀ base : Heap, K.In base → base.Ns mainGlobals mg → FnOk l.prog w K mg base CX0 14 fa fd ["_law_script"] (spLaw K) := by
  simp only [Prod.mk.injEq] at allc
  obtain ⟨xi_BadTiers, ur_TierError, uf_TierError, ug_TierError, fd_BadTiers, hm_BadTiers, hs_BadTiers, hf_BadTiers, tt, tb_TierError, tb_BadTiers, hg1, hg2, hb, ha, hn, ht, hk, o1, o2, o4, hd⟩ := allc
  have e := hfa.symm.trans (PySem.W.mg_of X G a24)
  cases e
  have F1 := fun_mk (st := s_are_figures) l1 c1 k1
  have b1 := F1.binds (ps := ["text"]) fun _ _ _ _ _ _ us hl => match us, hl with | [_], _ => rfl
  have F2 := fun_mk (st := s_read_padded) l2 c2 k2
  have b2 := F2.binds (ps := ["text", "least", "most"]) fun _ _ _ _ _ _ us hl => match us, hl with | [_, _, _], _ => rfl
  have F3 := fun_mk (st := s_read_figures) l3 c3 k3
  have b3 := F3.binds (ps := ["text", "least", "most"]) fun _ _ _ _ _ _ us hl => match us, hl with | [_, _, _], _ => rfl
  have F4 := fun_mk (st := s_text_of_rows) l4 c4 k4
  have b4 := F4.binds (ps := ["rows"]) fun _ _ _ _ _ _ us hl => match us, hl with | [_], _ => rfl
  have F5 := fun_mk (st := s_rows_of) l5 c5 k5
  have b5 := F5.binds (ps := ["text"]) fun _ _ _ _ _ _ us hl => match us, hl with | [_], _ => rfl
  have F6 := fun_mk (st := s_row_at) l6 c6 k6
  have b6 := F6.binds (ps := ["rows", "line"]) fun _ _ _ _ _ _ us hl => match us, hl with | [_, _], _ => rfl
  have F7 := fun_mk (st := s_read_number) l7 c7 k7
  have b7 := F7.binds (ps := ["rows", "line", "ahead", "least", "most"]) fun _ _ _ _ _ _ us hl => match us, hl with | [_, _, _, _, _], _ => rfl
  have F8 := fun_mk (st := s_read_tier) l8 c8 k8
  have b8 := F8.binds (ps := ["row", "fresh"]) fun _ _ _ _ _ _ us hl => match us, hl with | [_, _], _ => rfl
  have F9 := fun_mk (st := s_are_unlike) l9 c9 k9
  have b9 := F9.binds (ps := ["numbers"]) fun _ _ _ _ _ _ us hl => match us, hl with | [_], _ => rfl
  have F10 := fun_mk (st := s_read_all_tiers) l10 c10 k10
  have b10 := F10.binds (ps := ["rows", "fresh"]) fun _ _ _ _ _ _ us hl => match us, hl with | [_, _], _ => rfl
  have F11 := fun_mk (st := s_read_tiers) l11 c11 k11
  have b11 := F11.binds (ps := ["text"]) fun _ _ _ _ _ _ us hl => match us, hl with | [_], _ => rfl
  have F12 := fun_mk (st := s__law_whole) l12 c12 k12
  have b12 := F12.binds (ps := ["_law_found"]) fun _ _ _ _ _ _ us hl => match us, hl with | [_], _ => rfl
  have F13 := fun_mk (st := s__law_cell_at) l13 c13 k13
  have b13 := F13.binds (ps := ["_law_script", "_law_k"]) fun _ _ _ _ _ _ us hl => match us, hl with | [_, _], _ => rfl
  have F14 := fun_mk (st := s__law_mixed) l14 c14 k14
  have b14 := F14.binds (ps := ["_law_cell", "_law_k"]) fun _ _ _ _ _ _ us hl => match us, hl with | [_, _], _ => rfl
  have F15 := fun_mk (st := s__law_tiers) l15 c15 k15
  have b15 := F15.binds (ps := ["_law_script"]) fun _ _ _ _ _ _ us hl => match us, hl with | [_], _ => rfl
  have F16 := fun_mk (st := s__law_text) l16 c16 k16
  have b16 := F16.binds (ps := ["_law_tiers_here"]) fun _ _ _ _ _ _ us hl => match us, hl with | [_], _ => rfl
  have F17 := fun_mk (st := s__law_number) l17 c17 k17
  have b17 := F17.binds (ps := ["_law_word", "_law_least", "_law_most"]) fun _ _ _ _ _ _ us hl => match us, hl with | [_, _, _], _ => rfl
  have F18 := fun_mk (st := s__law_line) l18 c18 k18
  have b18 := F18.binds (ps := ["_law_words", "_law_place", "_law_fresh", "_law_used"]) fun _ _ _ _ _ _ us hl => match us, hl with | [_, _, _, _], _ => rfl
  have F19 := fun_mk (st := s__law_due) l19 c19 k19
  have b19 := F19.binds (ps := ["_law_text_here"]) fun _ _ _ _ _ _ us hl => match us, hl with | [_], _ => rfl
  have F20 := fun_mk (st := s__law_signs) l20 c20 k20
  have b20 := F20.binds (ps := ["_law_text_here", "_law_cell", "_law_way"]) fun _ _ _ _ _ _ us hl => match us, hl with | [_, _, _], _ => rfl
  have F21 := fun_mk (st := s__law_spoilt) l21 c21 k21
  have b21 := F21.binds (ps := ["_law_lines", "_law_cell", "_law_way"]) fun _ _ _ _ _ _ us hl => match us, hl with | [_, _, _], _ => rfl
  have F22 := fun_mk (st := s__law_told) l22 c22 k22
  have b22 := F22.binds (ps := ["_law_text_here"]) fun _ _ _ _ _ _ us hl => match us, hl with | [_], _ => rfl
  have F23 := fun_mk (st := s__law_field) l23 c23 k23
  have b23 := F23.binds (ps := ["_law_text_here"]) fun _ _ _ _ _ _ us hl => match us, hl with | [_], _ => rfl
  have F24 := fun_mk (st := s_law) l24 c24 k24
  have b24 := F24.binds (ps := ["_law_script"]) fun _ _ _ _ _ _ us hl => match us, hl with | [_], _ => rfl
  have FIBadTiers := fun_mk (st := s_BadTiers_init) li_BadTiers ci_BadTiers ki_BadTiers
  have bIBadTiers := FIBadTiers.binds (ps := ["self", "line"]) fun _ _ _ _ _ _ us hl => match us, hl with | [_, _], _ => rfl
  have T : Txt K mg := { f_are_figures := ⟨_, _, F1, PySem.W.mg_of X G a1, b1⟩, f_read_padded := ⟨_, _, F2, PySem.W.mg_of X G a2, b2⟩, f_read_figures := ⟨_, _, F3, PySem.W.mg_of X G a3, b3⟩, f_text_of_rows := ⟨_, _, F4, PySem.W.mg_of X G a4, b4⟩, f_rows_of := ⟨_, _, F5, PySem.W.mg_of X G a5, b5⟩, f_row_at := ⟨_, _, F6, PySem.W.mg_of X G a6, b6⟩, f_read_number := ⟨_, _, F7, PySem.W.mg_of X G a7, b7⟩, f_read_tier := ⟨_, _, F8, PySem.W.mg_of X G a8, b8⟩, f_are_unlike := ⟨_, _, F9, PySem.W.mg_of X G a9, b9⟩, f_read_all_tiers := ⟨_, _, F10, PySem.W.mg_of X G a10, b10⟩, f_read_tiers := ⟨_, _, F11, PySem.W.mg_of X G a11, b11⟩, f__law_whole := ⟨_, _, F12, PySem.W.mg_of X G a12, b12⟩, f__law_cell_at := ⟨_, _, F13, PySem.W.mg_of X G a13, b13⟩, f__law_mixed := ⟨_, _, F14, PySem.W.mg_of X G a14, b14⟩, f__law_tiers := ⟨_, _, F15, PySem.W.mg_of X G a15, b15⟩, f__law_text := ⟨_, _, F16, PySem.W.mg_of X G a16, b16⟩, f__law_number := ⟨_, _, F17, PySem.W.mg_of X G a17, b17⟩, f__law_line := ⟨_, _, F18, PySem.W.mg_of X G a18, b18⟩, f__law_due := ⟨_, _, F19, PySem.W.mg_of X G a19, b19⟩, f__law_signs := ⟨_, _, F20, PySem.W.mg_of X G a20, b20⟩, f__law_spoilt := ⟨_, _, F21, PySem.W.mg_of X G a21, b21⟩, f__law_told := ⟨_, _, F22, PySem.W.mg_of X G a22, b22⟩, f__law_field := ⟨_, _, F23, PySem.W.mg_of X G a23, b23⟩, g_FIGURES := ⟨_, PySem.W.mg_of X G g0, ⟨_, rfl⟩⟩, g_GREATEST_STAMP := ⟨_, PySem.W.mg_of X G g1, ⟨_, rfl⟩⟩, g_GREATEST_NUMBER := ⟨_, PySem.W.mg_of X G g2, ⟨_, rfl⟩⟩, g_FRESH_LINE := ⟨_, PySem.W.mg_of X G g3, ⟨_, rfl⟩⟩, g_POURED_LINE := ⟨_, PySem.W.mg_of X G g4, ⟨_, rfl⟩⟩, g_FIRST_TIER_LINE := ⟨_, PySem.W.mg_of X G g5, ⟨_, rfl⟩⟩, g_LAST_LINE := ⟨_, PySem.W.mg_of X G g6, ⟨_, rfl⟩⟩, b_ValueError := PySem.W.mg_none_of X G z0, b_all := PySem.W.mg_none_of X G z1, b_bool := PySem.W.mg_none_of X G z2, b_e := PySem.W.mg_none_of X G z3, b_int := PySem.W.mg_none_of X G z4, b_isinstance := PySem.W.mg_none_of X G z5, b_len := PySem.W.mg_none_of X G z6, b_max := PySem.W.mg_none_of X G z7, b_min := PySem.W.mg_none_of X G z8, b_range := PySem.W.mg_none_of X G z9, b_set := PySem.W.mg_none_of X G z10, b_str := PySem.W.mg_none_of X G z11, b_tuple := PySem.W.mg_none_of X G z12, cl := ⟨⟨CTierError, CBadKey, CBadValue, CBadDeed, CBadStamp, CBadSieve, CBadRow, CBadRun, CBadJournal, CBadTiers, CNoFile, CStopped, CNoSnapshot, CBadFile, CBadTiers_init⟩, { m_TierError := PySem.W.mg_of X G m_TierError, m_BadKey := PySem.W.mg_of X G m_BadKey, m_BadValue := PySem.W.mg_of X G m_BadValue, m_BadDeed := PySem.W.mg_of X G m_BadDeed, m_BadStamp := PySem.W.mg_of X G m_BadStamp, m_BadSieve := PySem.W.mg_of X G m_BadSieve, m_BadRow := PySem.W.mg_of X G m_BadRow, m_BadRun := PySem.W.mg_of X G m_BadRun, m_BadJournal := PySem.W.mg_of X G m_BadJournal, m_BadTiers := PySem.W.mg_of X G m_BadTiers, m_NoFile := PySem.W.mg_of X G m_NoFile, m_Stopped := PySem.W.mg_of X G m_Stopped, m_NoSnapshot := PySem.W.mg_of X G m_NoSnapshot, m_BadFile := PySem.W.mg_of X G m_BadFile, xi_BadTiers := xi_BadTiers, ur_TierError := ur_TierError, uf_TierError := uf_TierError, ug_TierError := ug_TierError, fd_BadTiers := fd_BadTiers, hm_BadTiers := hm_BadTiers, hs_BadTiers := hs_BadTiers, hf_BadTiers := hf_BadTiers, tt := tt, tb_TierError := tb_TierError, tb_BadTiers := tb_BadTiers, hg1 := hg1, hg2 := hg2, hb := hb, ha := ha, hn := hn, ht := ht, hk := hk, o1 := o1, o2 := o2, o4 := o4, hd := hd, i_BadTiers := ⟨_, FIBadTiers, bIBadTiers⟩ }⟩ }
  exact ⟨_, fun s v => .of_eq rfl, fun base _ _ => ok_law T ⟨F24, PySem.W.mg_of X G a24, b24⟩⟩
theorem walk {l : PySem.W.OpenLaw} {q : Program} {loose : List Str} {XP : (Str → Option Value) → Heap → Prop} {YP : World → Heap → Prop} {d : DefRec} {K : Params → PySem.W.Frag} (hn : l.most = some 63) (hdf : d.params.defaults = [])
    (hY : ∀ (w : World) (h : Heap), YP w h → (K w.params).In h)
    (F : ∀ (w : World) (mg : Str → Option Value) (fa : Addr) (h : Heap), (K w.params).In h → h.Ns mainGlobals mg → mg d.name = some (.ref fa) →
      ∃ fd : FuncData, (∀ (s : Shared) (u : Value), BindsTo s fd ⟨[u], []⟩ [("_law_script", u)]) ∧ ∀ base : Heap, (K w.params).In base → base.Ns mainGlobals mg → FnOk l.prog w (K w.params) mg base CX0 14 fa fd ["_law_script"] (spLaw (K w.params))) :
    PySem.W.WalkO q loose XP YP l.row.toRowW d [] (fun f vs => PySem.call f vs) :=
  L2.walk_of (n := 63) (k := 14) (x := "_law_script") (CX := fun _ => CX0) (sp := fun w => spLaw (K w.params)) hn (by decide) hdf ⟨rfl, by decide, by decide⟩ hY F (fun _ _ a ns hl _ hS => ⟨a, ns, rfl, hS, hl, fun _ => rfl⟩) fun _ _ _ _ _ z => z
end T53
namespace PySem.W.Fast
def tw10322033258227699001 := ()
def tw13447743834910368444 := ()
def tw17067528022876528990 := ()
def tw1666357317604677016 := ()
def tw12970791168845024065 := ()
def tw1534433142686063553 := ()
def tw17958161138839158006 := ()
def tw6509144953387494530 := ()
def tw15471172272834001607 := ()
def tw6693357531657654598 := ()
def tw9303829957497203787 := ()
def tw18272152374045454750 := ()
def tw7707232972218366440 := ()
def tw15160777637282444154 := ()
def tw1344997020804819914 := ()
def tw6184793101862855320 := ()
def tw15959367648852811098 := ()
def tw15160042764668731230 := ()
def tw12460652264764596978 := ()
def tw2244160442143838163 := ()
def tw497165575090161986 := ()
def tw11580009266877990559 := ()
def tw17461503200023251090 := ()
def tw7845579294729622535 := ()
def tw4730903120105473462 := ()
def tw8643772970383099952 := ()
def tw13060558587666199993 := ()
def tw12021013727298083158 := ()
def tw17653597122209872814 := ()
def tw378269546444112542 := ()
def tw14019978877408842707 := ()
def tw9919388049525063241 := ()
def tw9780836211086709022 := ()
def tw9695798288757907172 := ()
def tw10661796541382952764 := ()
def tw3073444696669953545 := ()
def tw16385258699011810032 := ()
def tw5917671027925512133 := ()
def tw15749436807487003089 := ()
def tw15777270221258537558 := ()
def tw6784481942323285837 := ()
def tw6275509206190311414 := ()
def tw17103185609340442263 := ()
def tw10364230452512104547 := ()
def tw4431479980912494895 := ()
def tw3930360811390546004 := ()
def tw16864028371997765603 := ()
def tw12610463934643405779 := ()
def tw8275609569410360478 := ()
def tw3248955780090753487 := ()
def tw12912382832032290844 := ()
def tw1249586044662692618 := ()
def tw9729118250763313421 := ()
def tw5865272385554023930 := ()
def tw3873739435291772670 := ()
def tw14925944561892947614 := ()
def tw13804430336501533568 := ()
def tw17650205546982695929 := ()
end PySem.W.Fast
open PySem PySem.W PyProof.Rows
set_option maxRecDepth 100000 in
set_option maxHeartbeats 0 in
theorem PySem.Challenge.cw_tierstore_k53_tiers_refused_holds : PySem.Challenge.rw_tierstore_k53_tiers_refused.Holds := by
  w_on; o_law; k_head; (case hw => w_witness2)
  k_fill
  refine T53.walk (l := PySem.Challenge.rw_tierstore_k53_tiers_refused) rfl rfl (fun w h Y => PySem.W.kIn_of Y) ?F
  case F =>
    intro w mg fa h KX G hmg
    refine' T53.all_mk KX G hmg ?xa1 ?xl1 ?xc1 ?xk1 ?xa2 ?xl2 ?xc2 ?xk2 ?xa3 ?xl3 ?xc3 ?xk3 ?xa4 ?xl4 ?xc4 ?xk4 ?xa5 ?xl5 ?xc5 ?xk5 ?xa6 ?xl6 ?xc6 ?xk6 ?xa7 ?xl7 ?xc7 ?xk7 ?xa8 ?xl8 ?xc8 ?xk8 ?xa9 ?xl9 ?xc9 ?xk9 ?xa10 ?xl10 ?xc10 ?xk10 ?xa11 ?xl11 ?xc11 ?xk11 ?xa12 ?xl12 ?xc12 ?xk12 ?xa13 ?xl13 ?xc13 ?xk13 ?xa14 ?xl14 ?xc14 ?xk14 ?xa15 ?xl15 ?xc15 ?xk15 ?xa16 ?xl16 ?xc16 ?xk16 ?xa17 ?xl17 ?xc17 ?xk17 ?xa18 ?xl18 ?xc18 ?xk18 ?xa19 ?xl19 ?xc19 ?xk19 ?xa20 ?xl20 ?xc20 ?xk20 ?xa21 ?xl21 ?xc21 ?xk21 ?xa22 ?xl22 ?xc22 ?xk22 ?xa23 ?xl23 ?xc23 ?xk23 ?xa24 ?xl24 ?xc24 ?xk24 ?xg0 ?xg1 ?xg2 ?xg3 ?xg4 ?xg5 ?xg6 ?xz0 ?xz1 ?xz2 ?xz3 ?xz4 ?xz5 ?xz6 ?xz7 ?xz8 ?xz9 ?xz10 ?xz11 ?xz12 ?xm_TierError ?xm_BadKey ?xm_BadValue ?xm_BadDeed ?xm_BadStamp ?xm_BadSieve ?xm_BadRow ?xm_BadRun ?xm_BadJournal ?xm_BadTiers ?xm_NoFile ?xm_Stopped ?xm_NoSnapshot ?xm_BadFile ?xai_BadTiers ?xli_BadTiers ?xci_BadTiers ?xki_BadTiers ?xallc
    (case xa1 => k_is); (case xl1 => k_is); (case xc1 => k_is); (case xk1 => k_is); (case xa2 => k_is); (case xl2 => k_is)
    (case xc2 => k_is); (case xk2 => k_is); (case xa3 => k_is); (case xl3 => k_is); (case xc3 => k_is); (case xk3 => k_is)
    (case xa4 => k_is); (case xl4 => k_is); (case xc4 => k_is); (case xk4 => k_is); (case xa5 => k_is); (case xl5 => k_is)
    (case xc5 => k_is); (case xk5 => k_is); (case xa6 => k_is); (case xl6 => k_is); (case xc6 => k_is); (case xk6 => k_is)
    (case xa7 => k_is); (case xl7 => k_is); (case xc7 => k_is); (case xk7 => k_is); (case xa8 => k_is); (case xl8 => k_is)
    (case xc8 => k_is); (case xk8 => k_is); (case xa9 => k_is); (case xl9 => k_is); (case xc9 => k_is); (case xk9 => k_is)
    (case xa10 => k_is); (case xl10 => k_is); (case xc10 => k_is); (case xk10 => k_is); (case xa11 => k_is); (case xl11 => k_is)
    (case xc11 => k_is); (case xk11 => k_is); (case xa12 => k_is); (case xl12 => k_is); (case xc12 => k_is); (case xk12 => k_is)
    (case xa13 => k_is); (case xl13 => k_is); (case xc13 => k_is); (case xk13 => k_is); (case xa14 => k_is); (case xl14 => k_is)
    (case xc14 => k_is); (case xk14 => k_is); (case xa15 => k_is); (case xl15 => k_is); (case xc15 => k_is); (case xk15 => k_is)
    (case xa16 => k_is); (case xl16 => k_is); (case xc16 => k_is); (case xk16 => k_is); (case xa17 => k_is); (case xl17 => k_is)
    (case xc17 => k_is); (case xk17 => k_is); (case xa18 => k_is); (case xl18 => k_is); (case xc18 => k_is); (case xk18 => k_is)
    (case xa19 => k_is); (case xl19 => k_is); (case xc19 => k_is); (case xk19 => k_is); (case xa20 => k_is); (case xl20 => k_is)
    (case xc20 => k_is); (case xk20 => k_is); (case xa21 => k_is); (case xl21 => k_is); (case xc21 => k_is); (case xk21 => k_is)
    (case xa22 => k_is); (case xl22 => k_is); (case xc22 => k_is); (case xk22 => k_is); (case xa23 => k_is); (case xl23 => k_is)
    (case xc23 => k_is); (case xk23 => k_is); (case xa24 => k_is); (case xl24 => k_is); (case xc24 => k_is); (case xk24 => k_is)
    (case xg0 => k_is); (case xg1 => k_is); (case xg2 => k_is); (case xg3 => k_is); (case xg4 => k_is); (case xg5 => k_is)
    (case xg6 => k_is); (case xz0 => k_is); (case xz1 => k_is); (case xz2 => k_is); (case xz3 => k_is); (case xz4 => k_is)
    (case xz5 => k_is); (case xz6 => k_is); (case xz7 => k_is); (case xz8 => k_is); (case xz9 => k_is); (case xz10 => k_is)
    (case xz11 => k_is); (case xz12 => k_is); (case xm_TierError => k_is); (case xm_BadKey => k_is); (case xm_BadValue => k_is); (case xm_BadDeed => k_is)
    (case xm_BadStamp => k_is); (case xm_BadSieve => k_is); (case xm_BadRow => k_is); (case xm_BadRun => k_is); (case xm_BadJournal => k_is); (case xm_BadTiers => k_is)
    (case xm_NoFile => k_is); (case xm_Stopped => k_is); (case xm_NoSnapshot => k_is); (case xm_BadFile => k_is); (case xai_BadTiers => k_is); (case xli_BadTiers => k_is)
    (case xci_BadTiers => k_is); (case xki_BadTiers => k_is); (case xallc => kernel_rfl)
