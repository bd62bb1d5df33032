import PyProof.Rows.All
import Wide.All
import OpenK.AllK
import Wide.FinOn
import Lean
import PyProof.EqAt
import PyProof.EqKinds
import PyProof.TupleCall
import PyProof.NeKinds
import PyProof.ListMulRoad
import PyProof.TupleOps
import PyProof.FactsAll.tuple_2
import PyProof.Rows.SeqMore
import KE.KRevSl
import KE.KRevIter
import KE.KIntText
import PyProof.Rows.RuleB_lshift
import PyProof.Rows.StrJoin2
import PyProof.Rows.StrNews2
import PyProof.Rows.FStr
import PyProof.Rows.StrFromFirst
import PyProof.Rows.StrLawsPart
import PyProof.Rows.RegReprOcc
import PyProof.Rows.SetFrom
import PyProof.AutoSeq1
import OpenK.KRaise
import PyProof.Rows.Own
import OpenK.KOwn
import PyProof.ExcBaseAll.ValueError
import KE.KIsAll
import PyProof.ExcInit
import PyProof.ExcClass2
import OpenK.KCls
import OpenK.KWalk
import PySem.Challenge.RW_tierstore_k16_refusals
set_option Elab.async false
set_option linter.all false
set_option maxRecDepth 100000
/-! THE HAND LAYER, for ints, bools, texts, own classes, LISTS and tuples (index, slices, in, append, pop ..), calls, loops. Paste it whole ahead of your own text; what your proof does not reach may be deleted. -/
namespace L2
open PySem PySem.Spec PyProof.Rows

/-- a key: an int or a str -/
abbrev Key := Sum Int Str
def keyIs : Key → Value → Bool
  | .inl k, v => Value.isInt k v
  | .inr x, v => Value.isStrOf x v
def keyH (w : World) : Key → Int
  | .inl k => hashInt k
  | .inr x => hashStr w x
theorem keyIs_shape : ∀ {k : Key} {v : Value}, keyIs k v = true → (∃ i t, k = Sum.inl i ∧ v = Value.int i t) ∨ (∃ x t, k = Sum.inr x ∧ v = Value.str x t)
  | .inl i, v, h => by
    obtain ⟨t, e⟩ := Value.isInt_shape (k := i) (v := v) h
    exact .inl ⟨i, t, rfl, e⟩
  | .inr x, v, h => by
    obtain ⟨t, e⟩ := Value.isStrOf_shape (x := x) (v := v) h
    exact .inr ⟨x, t, rfl, e⟩
theorem key_ll (a b : Int) : decide ((Sum.inl a : Key) = Sum.inl b) = (a == b) := by
  by_cases e : a = b
  · subst e; simp
  · have h : ¬ (Sum.inl a : Key) = Sum.inl b := fun q => e (Sum.inl.inj q)
    rw [decide_eq_false h]
    exact (beq_eq_false_iff_ne.mpr e).symm
theorem key_rr (a b : Str) : decide ((Sum.inr a : Key) = Sum.inr b) = decide (a = b) := by
  by_cases e : a = b
  · subst e; simp
  · have h : ¬ (Sum.inr a : Key) = Sum.inr b := fun q => e (Sum.inr.inj q)
    rw [decide_eq_false h, decide_eq_false e]
theorem key_lr (a : Int) (b : Str) : decide ((Sum.inl a : Key) = Sum.inr b) = false := decide_eq_false (fun q => nomatch q)
theorem key_rl (a : Str) (b : Int) : decide ((Sum.inr a : Key) = Sum.inl b) = false := decide_eq_false (fun q => nomatch q)

def mixKind (prog : Program) (w : World) : PySem.KeyKind prog w Key where
  is := keyIs
  hash := keyH w
  inj := fun v a b ha hb => by
    rcases keyIs_shape ha with ⟨i, t, rfl, rfl⟩ | ⟨x, t, rfl, rfl⟩
    · rcases keyIs_shape hb with ⟨j, u, rfl, e⟩ | ⟨y, u, rfl, e⟩
      · injection e with e1 _; rw [e1]
      · exact nomatch e
    · rcases keyIs_shape hb with ⟨j, u, rfl, e⟩ | ⟨y, u, rfl, e⟩
      · exact nomatch e
      · injection e with e1 _; rw [e1]
  byValue := fun k v h => by
    rcases keyIs_shape h with ⟨i, t, rfl, rfl⟩ | ⟨x, t, rfl, rfl⟩ <;> rfl
  pyHash := fun hv h => by
    rcases keyIs_shape hv with ⟨i, t, rfl, rfl⟩ | ⟨x, t, rfl, rfl⟩
    · exact wpAny_pyHash_int h
    · exact wpAny_pyHash_str h
  eqBool := fun hu hv h => by
    rcases keyIs_shape hu with ⟨i, t, rfl, rfl⟩ | ⟨x, t, rfl, rfl⟩
    · rcases keyIs_shape hv with ⟨j, u, rfl, rfl⟩ | ⟨y, u, rfl, rfl⟩
      · rw [key_ll] at h; exact wpAny_eqBool_int h
      · rw [key_lr] at h; exact SeqAt.EqAt.int_str i t y u _ _ _ _ h
    · rcases keyIs_shape hv with ⟨j, u, rfl, rfl⟩ | ⟨y, u, rfl, rfl⟩
      · rw [key_rl] at h; exact SeqAt.EqAt.str_int x t j u _ _ _ _ h
      · rw [key_rr] at h; exact wpAny_eqBool_str h
  «strs» := fun k x t v h => by
    rcases keyIs_shape h with ⟨i, u, rfl, e⟩ | ⟨y, u, rfl, e⟩
    · exact nomatch e
    · injection e with e1 _
      subst e1
      cases v <;> rfl

end L2

namespace L2
open PySem PySem.Spec PyProof.Rows

/-- a value, without the heap -/
inductive V where
  | non | bl (b : Bool) | int (i : Int) | str (x : Str) | byt (b : Array UInt8) | flt (b : UInt64) | ref (a : Addr) | ty (n : String)
  deriving DecidableEq

def RelV : V → Value → Prop
  | .non, u => u = Value.none
  | .bl b, u => u = Value.bool b
  | .int i, u => ∃ t, u = Value.int i t
  | .str x, u => ∃ t, u = Value.str x t
  | .byt b, u => ∃ t, u = Value.bytes b t
  | .flt b, u => ∃ t, u = Value.float b t
  | .ref a, u => u = Value.ref a
  | .ty n, u => u = Value.type n

abbrev Vals : List V → List Value → Prop := Paired RelV
theorem Vals.length {xs : List V} {us : List Value} (r : Vals xs us) : xs.length = us.length := Paired.length r
theorem Vals.get : ∀ {xs : List V} {us : List Value} {i : Nat} {x : V}, Vals xs us → xs[i]? = some x → ∃ u, us[i]? = some u ∧ RelV x u
  | _, _, _, _, .nil, e => by simp at e
  | _, _, 0, _, .cons r _, e => by simp at e; subst e; exact ⟨_, rfl, r⟩
  | _, _, i + 1, x, .cons _ t, e => by
    obtain ⟨u, h1, h2⟩ := Vals.get (i := i) (x := x) t (by simpa using e)
    exact ⟨u, by simpa using h1, h2⟩
theorem Vals.set {x : V} {u : Value} (r : RelV x u) : ∀ {xs : List V} {us : List Value} (i : Nat), Vals xs us → Vals (xs.set i x) (us.set i u)
  | _, _, _, .nil => .nil
  | _, _, 0, .cons _ t => .cons r t
  | _, _, i + 1, .cons q t => .cons q (Vals.set r i t)
theorem Vals.append : ∀ {xs ys : List V} {us ws : List Value}, Vals xs us → Vals ys ws → Vals (xs ++ ys) (us ++ ws)
  | _, _, _, _, .nil, s => s
  | _, _, _, _, .cons r t, s => .cons r (Vals.append t s)
theorem Vals.take : ∀ {xs : List V} {us : List Value} (n : Nat), Vals xs us → Vals (xs.take n) (us.take n)
  | _, _, 0, _ => .nil
  | _, _, _ + 1, .nil => .nil
  | _, _, n + 1, .cons r t => .cons r (Vals.take n t)
theorem Vals.drop : ∀ {xs : List V} {us : List Value} (n : Nat), Vals xs us → Vals (xs.drop n) (us.drop n)
  | _, _, 0, r => r
  | _, _, _ + 1, .nil => .nil
  | _, _, n + 1, .cons _ t => Vals.drop n t
theorem Vals.none_of : ∀ {xs : List V} {us : List Value} {i : Nat}, Vals xs us → xs[i]? = none → us[i]? = none := fun {xs us i} r e => by
  have h1 := r.length
  have h2 : xs.length ≤ i := List.getElem?_eq_none_iff.mp e
  exact List.getElem?_eq_none_iff.mpr (by omega)

def RelO : Option V → Option Value → Prop
  | some v, some u => RelV v u
  | none, none => True
  | _, _ => False
def KV {κ : Type} : List (κ × V) → List (κ × Value) → Prop := Paired fun (p : κ × V) (q : κ × Value) => p.1 = q.1 ∧ RelV p.2 q.2

/-- a key of a dict (00_mix): an int or a text -/
def kV : Key → V
  | .inl i => .int i
  | .inr x => .str x

/-- what stands at a tracked address -/
inductive HO where
  /-- a list -/
  | lst (xs : List V)
  /-- a tuple (never changes) -/
  | tup (xs : List V)
  /-- a dict whose keys are ints and texts; one whose keys are tuples of ints and texts (the empty one is both) -/
  | dK (kvs : List (Key × V)) | dT (kvs : List (List Key × V))
  /-- a set of ints: its members, its size -/
  | set (S : Int → Bool) (n : Nat)
  /-- an instance of the class at C, its dict at dx, its attributes -/
  | ins (C dx : Addr) (fs : List (Str × V))
  /-- the dict of the instance at x -/
  | own (x : Addr)
  /-- the dict of an exception -/
  | xd (fs : List (Str × V))
  /-- a bound method, f of x -/
  | met (f x : Addr)
  /-- a range object lo, lo + 1, .. below hi -/
  | rng (lo hi : Int)
  /-- a thing that is known to the object (the script; a dict while a loop walks it): read, never written while it is so -/
  | frz (o : Obj) (u : HO)
  /-- a code object's table -/
  | tbl (ps : Array Value)
  /-- any other thing, by what is true of its one object (a def of one's own: SetO a S n := HO.ext fun h => ..) -/
  | ext (φ : Heap → Prop)

abbrev Hp := Addr → Option HO
def upd (H : Hp) (a : Addr) (o : HO) : Hp := fun b => if b = a then some o else H b
theorem upd_same {H : Hp} {a : Addr} {o : HO} : upd H a o a = some o := by unfold upd; rw [if_pos rfl]
theorem upd_ne {H : Hp} {a b : Addr} {o : HO} (h : b ≠ a) : upd H a o b = H b := by unfold upd; rw [if_neg h]
theorem ne_of_none {H : Hp} {a b : Addr} {o : HO} (h : H a = some o) (h' : H b = none) : a ≠ b := by
  intro e; subst e; rw [h] at h'; cases h'

section
variable (P : Program) (w : World)
def ObjOk (H : Hp) (h : Heap) (a : Addr) : HO → Prop
  | .lst xs => xs.length ≤ sizeLine ∧ ∃ (its : List Value) (n : Nat), Vals xs its ∧ h.get? a = some { cls := .type "list", data := .seq its.toArray n }
  | .tup xs => xs.length ≤ sizeLine ∧ ∃ its : List Value, Vals xs its ∧ IsTup h a its.toArray
  | .dK kvs => kvs.length ≤ sizeLine ∧ (a == sysModules) = false ∧ ∃ vs, KV kvs vs ∧ h.DictOf (mixKind P w) a vs
  | .dT kvs => kvs.length ≤ sizeLine ∧ (a == sysModules) = false ∧ ∃ xs : List (List Key × Addr × Value),
      Paired (fun (p : List Key × V) (q : List Key × Addr × Value) => p.1 = q.1 ∧ H q.2.1 = some (.tup (p.1.map kV)) ∧ RelV p.2 q.2.2) kvs xs ∧
      ∃ o es ep, h.get? a = some o ∧ o.ExactDict ∧ o.data = .dict es ep ∧ es.toList = xs.map (entryOfKey (tupleKind (mixKind P w))) ∧ (xs.map (·.1)).Nodup
  | .set S n => h.SetOf (intKind P w) a S n
  | .ins C dx fs => H dx = some (.own a) ∧ fs.length ≤ 1000 ∧ dx ≠ a ∧ h.get? a = some (PySem.W.instObj C dx) ∧
      ∃ mA, h.Ns1 dx mA ∧ (∀ f, RelO (fs.lookup f) (mA f)) ∧ PySem.Within mA (fs.map (·.1))
  | .own _ => ∃ o, h.get? a = some o
  | .xd fs => ∃ mA, h.Ns1 a mA ∧ ∀ f, RelO (fs.lookup f) (mA f)
  | .rng lo hi => ∃ t u v, h.get? a = some { cls := .type "range", data := .fields #[.int lo t, .int hi u, .int 1 v] }
  | .frz o u => h.get? a = some o ∧ ObjOk H h a u
  | .tbl ps => h.get? a = some { cls := .none, data := .fields ps }
  | .met f x => h.get? a = some (PySem.W.methodObj (.ref f) (.ref x))
  | .ext φ => φ h ∧ (∃ o, h.get? a = some o) ∧ ∀ h1 h2 : Heap, φ h1 → (∀ o, h1.get? a = some o → h2.get? a = some o) → φ h2
/-- the abstract heap is held -/
def HOk (H : Hp) (h : Heap) : Prop := ∀ a o, H a = some o → ObjOk P w H h a o
end

section
variable {P : Program} {w : World} {H H' : Hp} {h h' : Heap} {a : Addr} {o : HO}
theorem ObjOk.lt (x : ObjOk P w H h a o) : a < h.objs.size := by
  cases o with
  | lst xs => obtain ⟨_, _, _, _, e⟩ := x; exact Heap.lt_size e
  | tup xs => obtain ⟨_, _, _, p⟩ := x; exact p.lt
  | dK kvs => obtain ⟨_, _, _, _, o, _, _, e, _⟩ := x; exact Heap.lt_size e
  | dT kvs => obtain ⟨_, _, _, _, o, _, _, e, _⟩ := x; exact Heap.lt_size e
  | set S n => obtain ⟨o, _, _, _, e, _⟩ := x; exact Heap.lt_size e
  | ins C dx fs => obtain ⟨_, _, _, e, _⟩ := x; exact Heap.lt_size e
  | own y => obtain ⟨_, e⟩ := x; exact Heap.lt_size e
  | xd fs => obtain ⟨_, ⟨_, _, _, e, _⟩, _⟩ := x; exact Heap.lt_size e
  | rng lo hi => obtain ⟨_, _, _, e⟩ := x; exact Heap.lt_size e
  | frz ob u => obtain ⟨e, _⟩ := x; exact Heap.lt_size e
  | tbl ps => exact Heap.lt_size (show h.get? a = some _ from x)
  | met f y => exact Heap.lt_size (show h.get? a = some _ from x)
  | ext φ => obtain ⟨_, ⟨_, e⟩, _⟩ := x; exact Heap.lt_size e
theorem Paired.mapP {α β : Type} {F G : α → β → Prop} : ∀ {l₁ : List α} {l₂ : List β}, Paired F l₁ l₂ → (∀ a b, F a b → G a b) → Paired G l₁ l₂
  | _, _, .nil, _ => .nil
  | _, _, .cons r t, f => .cons (f _ _ r) (Paired.mapP t f)
/-- what an object's description leans on: its own object, its own dict, the tuples -/
theorem ObjOk.stay (x : ObjOk P w H h a o) (k : ∀ b u, (b = a ∨ H b = some (.own a)) → h.get? b = some u → h'.get? b = some u)
    (ho : ∀ b, H b = some (.own a) → H' b = some (.own a)) (ht : ∀ b xs, H b = some (.tup xs) → H' b = some (.tup xs)) : ObjOk P w H' h' a o := by
  induction o with
  | lst xs => obtain ⟨z, its, n, r, e⟩ := x; exact ⟨z, its, n, r, k _ _ (.inl rfl) e⟩
  | tup xs => obtain ⟨z, its, r, ob, e, c⟩ := x; exact ⟨z, its, r, ob, k _ _ (.inl rfl) e, c⟩
  | dK kvs => obtain ⟨z, y, vs, r, ob, es, ep, e, c⟩ := x; exact ⟨z, y, vs, r, ob, es, ep, k _ _ (.inl rfl) e, c⟩
  | dT kvs =>
    obtain ⟨z, y, xs, r, ob, es, ep, e, c⟩ := x
    exact ⟨z, y, xs, Paired.mapP r fun p q z => ⟨z.1, ht _ _ z.2.1, z.2.2⟩, ob, es, ep, k _ _ (.inl rfl) e, c⟩
  | set S n => obtain ⟨ob, es, ep, t, e, c⟩ := x; exact ⟨ob, es, ep, t, k _ _ (.inl rfl) e, c⟩
  | ins C dx fs =>
    obtain ⟨d, z, ne, e, mA, ⟨od, es, ep, e2, c⟩, r⟩ := x
    exact ⟨ho _ d, z, ne, k _ _ (.inl rfl) e, mA, ⟨od, es, ep, k _ _ (.inr d) e2, c⟩, r⟩
  | own y => obtain ⟨ob, e⟩ := x; exact ⟨ob, k _ _ (.inl rfl) e⟩
  | xd fs => obtain ⟨mA, ⟨od, es, ep, e, c⟩, r⟩ := x; exact ⟨mA, ⟨od, es, ep, k _ _ (.inl rfl) e, c⟩, r⟩
  | rng lo hi => obtain ⟨t, u, v, e⟩ := x; exact ⟨t, u, v, k _ _ (.inl rfl) e⟩
  | frz ob u ih => obtain ⟨e, q⟩ := x; exact ⟨k _ _ (.inl rfl) e, ih q⟩
  | tbl ps =>
    have e : h.get? a = some { cls := .none, data := .fields ps } := x
    show h'.get? a = some { cls := .none, data := .fields ps }
    exact k a _ (.inl rfl) e
  | met f y =>
    have e : h.get? a = some (PySem.W.methodObj (.ref f) (.ref y)) := x
    show h'.get? a = some (PySem.W.methodObj (.ref f) (.ref y))
    exact k a _ (.inl rfl) e
  | ext φ => obtain ⟨p, ⟨o, e⟩, st⟩ := x; exact ⟨st _ _ p fun o q => k _ _ (.inl rfl) q, ⟨o, k _ _ (.inl rfl) e⟩, st⟩
theorem HOk.lt (x : HOk P w H h) (e : H a = some o) : a < h.objs.size := (x a o e).lt
theorem HOk.fresh (x : HOk P w H h) (e : h.objs.size ≤ a) : H a = none := by
  cases q : H a with
  | none => rfl
  | some u => exact absurd (Nat.lt_of_lt_of_le (x.lt q) e) (Nat.lt_irrefl _)
/-- every object of the heap is kept -/
theorem HOk.kept (x : HOk P w H h) (k : ∀ b u, h.get? b = some u → h'.get? b = some u) : HOk P w H h' := fun a o e =>
  (x a o e).stay (fun b u _ q => k b u q) (fun _ q => q) fun _ _ q => q
/-- a new object is laid and tracked -/
theorem HOk.laid (x : HOk P w H h) (k : ∀ b u, h.get? b = some u → h'.get? b = some u) (hp : h.objs.size ≤ a) (new : ObjOk P w (upd H a o) h' a o) : HOk P w (upd H a o) h' := fun b u e => by
  have hn := x.fresh hp
  by_cases hb : b = a
  · subst hb; rw [upd_same] at e; cases e; exact new
  · rw [upd_ne hb] at e
    exact (x b u e).stay (fun c v _ q => k c v q) (fun c q => by rw [upd_ne (ne_of_none q hn)]; exact q) fun c xs q => by rw [upd_ne (ne_of_none q hn)]; exact q
end

/-- what may be read as u: it is u, or a known u -/
def Rd (H : Hp) (a : Addr) (u : HO) : Prop := H a = some u ∨ ∃ o, H a = some (.frz o u)
theorem Rd.of {H : Hp} {a : Addr} {u : HO} (h : H a = some u) : Rd H a u := .inl h
theorem Rd.ok {P : Program} {w : World} {H : Hp} {h : Heap} {a : Addr} {u : HO} (r : Rd H a u) (x : HOk P w H h) : ObjOk P w H h a u := by
  rcases r with r | ⟨o, r⟩
  · exact x a u r
  · obtain ⟨_, q⟩ := x a _ r
    exact q
/-- what may be written -/
def Mut : Option HO → Prop
  | some (.lst _) => True
  | some (.dK _) => True
  | some (.dT _) => True
  | some (.set _ _) => True
  | some (.ins _ _ _) => True
  | some (.ext _) => True
  | _ => False
section
variable {P : Program} {w : World} {H : Hp} {h h' : Heap} {x e : Addr} {o' : HO}
/-- the object at e is changed: x itself, or the dict of the instance x -/
theorem HOk.write (ok : HOk P w H h) (mu : Mut (H x)) (he : e = x ∨ H e = some (.own x)) (k : ∀ b u, b ≠ e → h.get? b = some u → h'.get? b = some u) (heo : ∃ u, h'.get? e = some u)
    (new : ObjOk P w (upd H x o') h' x o') : HOk P w (upd H x o') h' := fun b u q => by
  have nown : ∀ c y, H c = some (.own y) → c ≠ x := fun c y r z => by subst z; rw [r] at mu; exact mu
  have ntup : ∀ c xs, H c = some (.tup xs) → c ≠ x := fun c xs r z => by subst z; rw [r] at mu; exact mu
  by_cases hb : b = x
  · subst hb; rw [upd_same] at q; cases q; exact new
  · rw [upd_ne hb] at q
    by_cases hbe : b = e
    · have q' : H b = some (.own x) := by
        rcases he with z | z
        · exact absurd (hbe.trans z) hb
        · rw [hbe]; exact z
      rw [q] at q'; cases q'
      obtain ⟨v, hv⟩ := heo
      exact ⟨v, by rw [hbe]; exact hv⟩
    · refine (ok b u q).stay (fun c v hc r => k c v ?_ r) (fun c r => by rw [upd_ne (nown c b r)]; exact r) fun c xs r => by rw [upd_ne (ntup c xs r)]; exact r
      rcases hc with rfl | hc
      · exact hbe
      · rintro rfl
        rcases he with z | z
        · exact nown c b hc z
        · rw [hc] at z; cases z; exact hb rfl
end

/-! ### kept unless tracked; of the frames at fs (the callers') the slots may change (an exception that passes writes there); of the records at ex (iterators) nothing is said -/
structure Un (fs ex : List Addr) (H H' : Hp) (h h' : Heap) : Prop where
  keep : ∀ b o, h.get? b = some o → H b = none → b ∉ fs → b ∉ ex → h'.get? b = some o
  slot : ∀ b o, h.get? b = some o → H b = none → b ∈ fs → b ∉ ex → ∃ sl, h'.get? b = some { o with slots := sl }
  free : ∀ b o, h.get? b = some o → H b = none → b ∉ ex → H' b = none
  there : ∀ b o, h.get? b = some o → b ∉ ex → ∃ o', h'.get? b = some o'
  tups : ∀ b xs, H b = some (.tup xs) → H' b = some (.tup xs)
  frzs : ∀ b o u, H b = some (.frz o u) → H' b = some (.frz o u)
  tbls : ∀ b ps, H b = some (.tbl ps) → ∃ more, H' b = some (.tbl (ps ++ more))
section
variable {fs fs' ex ex' : List Addr} {H H1 H2 : Hp} {h h1 h2 h' : Heap} {a x e : Addr} {o : HO}
theorem Un.any (u : Un fs ex H H1 h h1) {b : Addr} {ob : Obj} (q : h.get? b = some ob) (n : H b = none) (hx : b ∉ ex) : ∃ sl, h1.get? b = some { ob with slots := sl } := by
  by_cases hb : b ∈ fs
  · exact u.slot b ob q n hb hx
  · exact ⟨ob.slots, u.keep b ob q n hb hx⟩
theorem Un.trans (a : Un fs ex H H1 h h1) (b : Un fs ex H1 H2 h1 h2) : Un fs ex H H2 h h2 where
  keep := fun c ob q n hc hx => b.keep c ob (a.keep c ob q n hc hx) (a.free c ob q n hx) hc hx
  slot := fun c ob q n hc hx => by
    obtain ⟨sl, e1⟩ := a.slot c ob q n hc hx
    obtain ⟨sl', e2⟩ := b.slot c _ e1 (a.free c ob q n hx) hc hx
    exact ⟨sl', e2⟩
  free := fun c ob q n hx => by
    obtain ⟨o', e1⟩ := a.there c ob q hx
    exact b.free c o' e1 (a.free c ob q n hx) hx
  there := fun c ob q hx => by
    obtain ⟨o', e1⟩ := a.there c ob q hx
    exact b.there c o' e1 hx
  tups := fun c xs q => b.tups c xs (a.tups c xs q)
  frzs := fun c ob xs q => b.frzs c ob xs (a.frzs c ob xs q)
  tbls := fun c ps q => by
    obtain ⟨m1, e1⟩ := a.tbls c ps q
    obtain ⟨m2, e2⟩ := b.tbls c _ e1
    exact ⟨m1 ++ m2, by rw [e2, Array.append_assoc]⟩
theorem Un.kept (k : ∀ b u, h.get? b = some u → h'.get? b = some u) : Un fs ex H H h h' :=
  ⟨fun b ob q _ _ _ => k b ob q, fun b ob q _ _ _ => ⟨ob.slots, k b ob q⟩, fun _ _ _ n _ => n, fun b ob q _ => ⟨ob, k b ob q⟩, fun _ _ q => q, fun _ _ _ q => q, fun _ ps q => ⟨#[], by rw [q]; simp⟩⟩
theorem Un.refl : Un fs ex H H h h := Un.kept fun _ _ q => q
theorem Un.laid (k : ∀ b u, h.get? b = some u → h'.get? b = some u) (hp : h.objs.size ≤ a) (hn : H a = none) : Un fs ex H (upd H a o) h h' where
  keep := fun b u q _ _ _ => k b u q
  slot := fun b u q _ _ _ => ⟨u.slots, k b u q⟩
  free := fun b u q n _ => by rw [upd_ne (Nat.ne_of_lt (Nat.lt_of_lt_of_le (Heap.lt_size q) hp))]; exact n
  there := fun b u q _ => ⟨u, k b u q⟩
  tups := fun b xs q => by rw [upd_ne (ne_of_none q hn)]; exact q
  frzs := fun b u xs q => by rw [upd_ne (ne_of_none q hn)]; exact q
  tbls := fun b ps q => ⟨#[], by rw [upd_ne (ne_of_none q hn), q]; simp⟩
theorem Un.write (mu : Mut (H x)) (he : e = x ∨ H e = some (.own x)) (k : ∀ b u, b ≠ e → h.get? b = some u → h'.get? b = some u) (heo : ∃ u, h'.get? e = some u) : Un fs ex H (upd H x o) h h' := by
  have hx : ∀ b, H b = none → b ≠ x := fun b n z => by subst z; rw [n] at mu; exact mu
  have hb : ∀ b, H b = none → b ≠ e := fun b n z => by
    subst z
    rcases he with r | r
    · exact hx b n r
    · rw [n] at r; cases r
  have hm : ∀ b u, H b = some u → ¬ Mut (some u) → b ≠ x := fun b u q nm z => by subst z; rw [q] at mu; exact nm mu
  refine ⟨fun b u q n _ _ => k b u (hb b n) q, fun b u q n _ _ => ⟨u.slots, k b u (hb b n) q⟩, fun b u q n _ => by rw [upd_ne (hx b n)]; exact n, fun b u q _ => ?_,
    fun b xs q => by rw [upd_ne (hm b _ q fun z => z)]; exact q, fun b u xs q => by rw [upd_ne (hm b _ q fun z => z)]; exact q, fun b ps q => ⟨#[], by rw [upd_ne (hm b _ q fun z => z), q]; simp⟩⟩
  by_cases hbe : b = e
  · subst hbe; exact heo
  · exact ⟨u, k b u hbe q⟩
theorem Un.mono (u : Un fs ex H H1 h h1) (hs : ∀ b ∈ fs, b ∈ fs') (hx : ∀ b ∈ ex, b ∈ ex') : Un fs' ex' H H1 h h1 :=
  ⟨fun b ob q n hb he => u.keep b ob q n (fun z => hb (hs b z)) fun z => he (hx b z), fun _ _ q n _ he => u.any q n fun z => he (hx _ z), fun b ob q n he => u.free b ob q n fun z => he (hx b z), fun b ob q he => u.there b ob q fun z => he (hx b z), u.tups, u.frzs, u.tbls⟩
end

/-! ### the heap without what is tracked -/
def trk (h : Heap) (H : Hp) : List Addr := (List.range h.objs.size).filter fun a => (H a).isSome
def hidT (h : Heap) (H : Hp) : Heap := PySem.W.hideAll h (trk h H)
theorem hidT_size (h : Heap) (H : Hp) : (hidT h H).objs.size = h.objs.size := PySem.W.hideAll_size _ _
theorem hidT_get {h : Heap} {H : Hp} {b : Addr} {o : Obj} (e : h.get? b = some o) (n : H b = none) : (hidT h H).get? b = some o :=
  PySem.W.hideAll_get _ e fun hm => by
    have q : (H b).isSome = true := (List.mem_filter.mp hm).2
    rw [n] at q; simp at q
theorem of_hidT {h : Heap} {H : Hp} {b : Addr} {o : Obj} (e : (hidT h H).get? b = some o) : h.get? b = some o ∧ H b = none := by
  have e' : h.get? b = some o := PySem.W.of_hideAll (trk h H) e
  refine ⟨e', ?_⟩
  cases q : H b with
  | none => rfl
  | some x =>
    have hm : b ∈ trk h H := List.mem_filter.mpr ⟨List.mem_range.mpr (Heap.lt_size e'), by simp [q]⟩
    have z : (hidT h H).get? b = none := PySem.W.hideAll_none (trk h H) hm
    rw [z] at e; cases e

/-! ### OpenK's ledger, filled with every new object but one -/
def allNews (g h : Heap) (L : Addr) : List (Addr × Obj) := (List.range h.objs.size).filterMap fun a => if a = L ∨ (g.get? a).isSome = true then none else (h.get? a).map fun o => (a, o)
def rest (g h : Heap) (L d : Addr) : List (Addr × Obj) := (allNews g h L).filter fun p => decide (p.1 ≠ d)
end L2

namespace L2
open PySem PySem.Spec PyProof.Rows

/-- the module's facts, over the base: the heap at the law's entry without what is tracked there -/
structure Mod (K : PySem.W.Frag) (mg : Str → Option Value) (base : Heap) : Prop where
  kin : K.In base
  glob : base.Ns mainGlobals mg
  blt : ∃ mb, base.Ns builtinsNs mb ∧ ∀ x : Str, x ≠ "__name__" → mb x = bootBuiltins x
  nolimit : base.NoLimit

/-- the context: a def's body (or a comprehension's block) running. base: fixed through the whole law; s₀, H₀: the entry; outer: the frames whose slots others may change (a def's callers); stack: all frames that run;
   ex: iterators that were made ahead of the entry and are walked here (a comprehension's); fn: the names whose cells were made at the entry (a def: all; a comprehension's block: its own); calm: not within an except suite; pn: pins that every state bears; xe: what is wanted of an exception that leaves the code -/
structure Cx where
  prog : Program
  w : World
  K : PySem.W.Frag
  mg : Str → Option Value
  base : Heap
  A : Around
  N : List Str
  s₀ : Shared
  H₀ : Hp
  env : Env
  outer : List Env
  stack : List Env
  ex : List Addr
  fn : Str → Bool
  calm : Bool
  pn : List (Addr × Obj)
  xe : Value → Shared → Prop
/-- the callers' frames -/
def frs (l : List Env) : List Addr := l.filterMap (·.frame)
abbrev Cx.fs (X : Cx) : List Addr := frs X.outer

def Vis (sc : Scope) (x : Str) : Prop := sc.names.lookup x = some .local ∨ sc.names.lookup x = some .cell ∨ sc.names.lookup x = some .free
def Loc (sc : Scope) (x : Str) : Prop := sc.names.lookup x = some .local ∨ sc.names.lookup x = some .cell
def Look (env : Env) (h : Heap) (m : Str → Option Value) (x : Str) (u : Value) : Prop :=
  (env.kindOf x = some .local ∧ m x = some u) ∨ ((env.kindOf x = some .cell ∨ env.kindOf x = some .free) ∧ ∃ c, env.cells.lookup x = some c ∧ h.IsCell c (some u))

structure Cx.Ok (X : Cx) : Prop where
  mod : Mod X.K X.mg X.base
  kind : X.env.scope.kind = .function
  glob : X.env.globals = mainGlobals
  blt : X.env.builtins = builtinsNs
  above : X.s₀.heap.objs.size ≤ X.env.locals
  inj : ∀ x y c, X.env.cells.lookup x = some c → X.env.cells.lookup y = some c → x = y
  has : ∀ x, (X.env.kindOf x = some .cell ∨ X.env.kindOf x = some .free) → ∃ c, X.env.cells.lookup x = some c
  cab : ∀ x c, X.fn x = true → X.env.cells.lookup x = some c → X.s₀.heap.objs.size ≤ c
  hd : X.calm = true → X.A.handled = none
  frames : X.A.frames = some X.stack
  stk : X.stack = X.outer ∨ (X.stack = X.env :: X.outer ∧ X.env.frame = some X.env.locals)
  exf : ∀ b ∈ X.ex, b ≠ X.env.locals ∧ ∀ x c, X.env.cells.lookup x = some c → c ≠ b
  bs : ∀ b o, X.base.get? b = some o → X.s₀.heap.get? b = some o ∧ X.H₀ b = none
  bsz : X.base.objs.size ≤ X.s₀.heap.objs.size
  noex : ∀ b o, X.base.get? b = some o → b ∉ X.ex
  exfs : ∀ b ∈ X.ex, b ∉ X.fs
  funs : X.s₀.heap.FunFrames X.base X.outer
  frf : ∀ b ∈ X.fs, X.H₀ b = none

structure Inv (X : Cx) (pins : List (Addr × Obj)) (σ : List (Option V)) (H : Hp) (s : Shared) : Prop where
  ok : X.Ok
  os : s.os = X.s₀.os
  bare : AllBare s.gens
  base : Un X.fs X.ex X.H₀ H X.s₀.heap s.heap
  loc : ∃ m, s.heap.Ns X.env.locals m ∧ ∀ (i : Nat) (x : Str) (v : V), X.N[i]? = some x → σ[i]? = some (some v) → Vis X.env.scope x → ∃ u, RelV v u ∧ Look X.env s.heap m x u
  cell : ∀ x c, X.env.cells.lookup x = some c → ∃ v, s.heap.IsCell c v
  free : H X.env.locals = none
  freeC : ∀ x c, X.env.cells.lookup x = some c → H c = none
  pin : ∀ p ∈ X.pn ++ pins, s.heap.get? p.1 = some p.2 ∧ H p.1 = none ∧ p.1 ≠ X.env.locals ∧ p.1 ∉ X.fs ∧ ∀ v, p.2.data ≠ .cell v
  hok : HOk X.prog X.w H s.heap
  len : σ.length = X.N.length

section
variable {X : Cx} {pins : List (Addr × Obj)} {σ : List (Option V)} {H H' : Hp} {s : Shared} {h' : Heap}

theorem Cx.Ok.nofr (ok : X.Ok) {b : Addr} {o : Obj} (e : X.base.get? b = some o) : b ∉ X.fs := fun hb => by
  have := (ok.funs.mem hb).1
  rw [e] at this; cases this
theorem Inv.bs (I : Inv X pins σ H s) : ∀ b o, X.base.get? b = some o → s.heap.get? b = some o ∧ H b = none := fun b o e =>
  ⟨I.base.keep b o (I.ok.bs b o e).1 (I.ok.bs b o e).2 (I.ok.nofr e) (I.ok.noex b o e), I.base.free b o (I.ok.bs b o e).1 (I.ok.bs b o e).2 (I.ok.noex b o e)⟩
theorem Inv.bk (I : Inv X pins σ H s) : ∀ b o, X.base.get? b = some o → s.heap.get? b = some o := fun b o e => (I.bs b o e).1
theorem Inv.mod (I : Inv X pins σ H s) : Mod X.K X.mg X.base := I.ok.mod
theorem Inv.kIn (I : Inv X pins σ H s) : X.K.In s.heap := I.ok.mod.kin.keeps I.bk
theorem Inv.nolimit (I : Inv X pins σ H s) : s.heap.NoLimit := I.ok.mod.nolimit.keeps I.bk
/-- the frame over the base: for OpenK's rules (K.In X.base is I.mod.kin) -/
theorem Inv.fr (I : Inv X pins σ H s) : ∃ m, Fr X.base X.env.locals s.heap m :=
  let ⟨m, hn, _⟩ := I.loc
  ⟨m, hn, I.bk, Nat.le_trans I.ok.bsz I.ok.above⟩
theorem Inv.lt (I : Inv X pins σ H s) : X.env.locals < s.heap.objs.size := let ⟨_, hn, _⟩ := I.loc; hn.lt
theorem Inv.sz (I : Inv X pins σ H s) : X.s₀.heap.objs.size ≤ s.heap.objs.size := Nat.le_trans I.ok.above (Nat.le_of_lt I.lt)
theorem Inv.nofs (I : Inv X pins σ H s) {a : Addr} (h : s.heap.objs.size ≤ a) : a ∉ X.fs := fun hb => by
  obtain ⟨_, o, ho, _⟩ := I.ok.funs.mem hb
  exact absurd (Nat.lt_of_lt_of_le (Heap.lt_size ho) (Nat.le_trans I.sz h)) (Nat.lt_irrefl _)
theorem Inv.cne (I : Inv X pins σ H s) : ∀ x c, X.env.cells.lookup x = some c → c ≠ X.env.locals := fun x c e z => by
  obtain ⟨v, o, ho, hd⟩ := I.cell x c e
  obtain ⟨m, ⟨o', es, ep, ho', hd', _⟩, _⟩ := I.loc
  rw [z, ho'] at ho; cases ho; rw [hd'] at hd; cases hd
theorem Inv.funs (I : Inv X pins σ H s) : s.heap.FunFrames X.base X.outer := by
  have all : ∀ (l : List Env), (∀ b ∈ frs l, b ∈ X.fs) → X.s₀.heap.FunFrames X.base l → s.heap.FunFrames X.base l := by
    intro l
    induction l with
    | nil => intro _ _; trivial
    | cons env r ih =>
      intro hs hl
      obtain ⟨hk, ⟨L, o, hf, hn, ho, hd⟩, hr⟩ := hl
      have hL : L ∈ X.fs := hs L (by unfold frs; rw [List.filterMap_cons, hf]; exact List.mem_cons_self)
      obtain ⟨sl, e⟩ := I.base.slot L o ho (I.ok.frf L hL) hL fun z => I.ok.exfs L z hL
      exact ⟨hk, ⟨L, _, hf, hn, e, hd⟩, ih (fun b hb => hs b (by unfold frs; rw [List.filterMap_cons, hf]; exact List.mem_cons_of_mem _ hb)) hr⟩
  exact all X.outer (fun _ hb => hb) I.ok.funs

/-- the frames that run, for a call -/
theorem Inv.stack (I : Inv X pins σ H s) : s.heap.FunFrames X.base X.stack := by
  rcases I.ok.stk with e | ⟨e, hf⟩
  · rw [e]; exact I.funs
  · rw [e]
    obtain ⟨m, hn, _⟩ := I.loc
    refine .cons (by rw [I.ok.kind]; decide) hf hn ?_ I.funs
    exact Heap.get?_none_of_le (Nat.le_trans I.ok.bsz I.ok.above)
theorem Inv.stkSub (I : Inv X pins σ H s) : ∀ b ∈ frs X.stack, b ∈ X.env.locals :: X.fs := fun b hb => by
  rcases I.ok.stk with e | ⟨e, hf⟩
  · rw [e] at hb; exact List.mem_cons_of_mem _ hb
  · rw [e] at hb
    unfold frs at hb
    rw [List.filterMap_cons, hf] at hb
    exact hb
theorem Inv.stkFree (I : Inv X pins σ H s) : ∀ b ∈ frs X.stack, H b = none := fun b hb => by
  rcases List.mem_cons.mp (I.stkSub b hb) with e | hb
  · rw [e]; exact I.free
  · obtain ⟨_, o, ho, _⟩ := I.ok.funs.mem hb
    exact I.base.free b o ho (I.ok.frf b hb) fun z => I.ok.exfs b z hb

/-- THE STEP: the untracked objects but the frame and the records at ch are kept (the callers' frames up to slots), the frame's map is kept, the new abstract heap is held -/
theorem Inv.step {g' : Array GenState} {t' : Nat} {d' : Drawn} {ch : List Addr} (I : Inv X pins σ H s)
    (hch : ∀ b ∈ ch, (b ∈ X.ex ∨ X.s₀.heap.objs.size ≤ b) ∧ b ≠ X.env.locals ∧ (∀ x c, X.env.cells.lookup x = some c → c ≠ b) ∧ ∀ p ∈ X.pn ++ pins, p.1 ≠ b)
    (keep : ∀ b o, b ≠ X.env.locals → b ∉ X.fs → b ∉ ch → s.heap.get? b = some o → H b = none → h'.get? b = some o)
    (slot : ∀ b o, b ≠ X.env.locals → b ∈ X.fs → b ∉ ch → s.heap.get? b = some o → H b = none → ∃ sl, h'.get? b = some { o with slots := sl }) (free : ∀ b o, b ∉ ch → s.heap.get? b = some o → H b = none → H' b = none)
    (there : ∀ b o, b ∉ ch → s.heap.get? b = some o → ∃ o', h'.get? b = some o')
    (tups : ∀ b xs, H b = some (.tup xs) → H' b = some (.tup xs)) (frzs : ∀ b o u, H b = some (.frz o u) → H' b = some (.frz o u)) (tbls : ∀ b ps, H b = some (.tbl ps) → ∃ more, H' b = some (.tbl (ps ++ more)))
    (ns : ∀ m, s.heap.Ns X.env.locals m → h'.Ns X.env.locals m) (hok : HOk X.prog X.w H' h') (hg : AllBare g') :
    Inv X pins σ H' { s with heap := h', gens := g', drawn := d', toks := t' } := by
  have neL : ∀ b o, X.s₀.heap.get? b = some o → b ≠ X.env.locals := fun b o e => Nat.ne_of_lt (Nat.lt_of_lt_of_le (Heap.lt_size e) I.ok.above)
  have neC : ∀ b o, X.s₀.heap.get? b = some o → b ∉ X.ex → b ∉ ch := fun b o e hx hb => by
    rcases (hch b hb).1 with z | z
    · exact hx z
    · exact absurd (Nat.lt_of_lt_of_le (Heap.lt_size e) z) (Nat.lt_irrefl _)
  have cellK : ∀ x c, X.env.cells.lookup x = some c → ∀ v, s.heap.IsCell c v → h'.IsCell c v := fun x c e v ⟨o, ho, hd⟩ => by
    have nch : c ∉ ch := fun z => (hch c z).2.2.1 x c e rfl
    by_cases hc : c ∈ X.fs
    · obtain ⟨sl, q⟩ := slot c o (I.cne x c e) hc nch ho (I.freeC x c e)
      exact ⟨_, q, hd⟩
    · exact ⟨o, keep c o (I.cne x c e) hc nch ho (I.freeC x c e), hd⟩
  refine ⟨I.ok, I.os, hg, ⟨fun b o e n hb hx => ?_, fun b o e n hb hx => ?_, fun b o e n hx => ?_, fun b o e hx => ?_, fun b xs e => tups b xs (I.base.tups b xs e), fun b o xs e => frzs b o xs (I.base.frzs b o xs e), fun b ps e => ?_⟩, ?_, fun x c e => ?_, ?_, fun x c e => ?_, fun p hp => ?_, hok, I.len⟩
  · exact keep b o (neL b o e) hb (neC b o e hx) (I.base.keep b o e n hb hx) (I.base.free b o e n hx)
  · obtain ⟨sl, e1⟩ := I.base.slot b o e n hb hx
    obtain ⟨sl', e2⟩ := slot b _ (neL b o e) hb (neC b o e hx) e1 (I.base.free b o e n hx)
    exact ⟨sl', e2⟩
  · obtain ⟨o', e1⟩ := I.base.there b o e hx
    exact free b o' (neC b o e hx) e1 (I.base.free b o e n hx)
  · obtain ⟨o', e1⟩ := I.base.there b o e hx
    exact there b o' (neC b o e hx) e1
  · obtain ⟨m1, e1⟩ := I.base.tbls b ps e
    obtain ⟨m2, e2⟩ := tbls b _ e1
    exact ⟨m1 ++ m2, by rw [e2, Array.append_assoc]⟩
  · obtain ⟨m, hn, hl⟩ := I.loc
    refine ⟨m, ns m hn, fun i x v e1 e2 e3 => ?_⟩
    obtain ⟨u, r, l⟩ := hl i x v e1 e2 e3
    refine ⟨u, r, ?_⟩
    rcases l with l | ⟨k, c, e, z⟩
    · exact .inl l
    · exact .inr ⟨k, c, e, cellK x c e _ z⟩
  · obtain ⟨v, z⟩ := I.cell x c e
    exact ⟨v, cellK x c e v z⟩
  · obtain ⟨m, ⟨o, _, _, ho, _⟩, _⟩ := I.loc
    exact free _ o (fun z => (hch _ z).2.1 rfl) ho I.free
  · obtain ⟨v, o, ho, hd⟩ := I.cell x c e
    exact free c o (fun z => (hch c z).2.2.1 x c e rfl) ho (I.freeC x c e)
  · obtain ⟨e, n, ne, nf, d⟩ := I.pin p hp
    have nch : p.1 ∉ ch := fun z => (hch p.1 z).2.2.2 p hp rfl
    exact ⟨keep p.1 p.2 ne nf nch e n, free p.1 p.2 nch e n, ne, nf, d⟩
/-- .. where the frame's own object is kept too -/
theorem Inv.un {t' : Nat} (I : Inv X pins σ H s) (u : Un X.fs [] H H' s.heap h') (hok : HOk X.prog X.w H' h') : Inv X pins σ H' { s with heap := h', toks := t' } := by
  obtain ⟨m, ⟨o, es, ep, ho, r⟩, _⟩ := id I.loc
  obtain ⟨sl, hL⟩ := u.any ho I.free (by simp)
  exact I.step (g' := s.gens) (d' := s.drawn) (ch := []) (fun _ z => nomatch z) (fun b o _ hb _ e n => u.keep b o e n hb (by simp)) (fun b o _ hb _ e n => u.slot b o e n hb (by simp)) (fun b o _ e n => u.free b o e n (by simp)) (fun b o _ e => u.there b o e (by simp)) u.tups u.frzs u.tbls (fun m' hm => by
    obtain ⟨o', es', ep', ho', r'⟩ := hm
    rw [ho] at ho'; cases ho'
    exact ⟨_, es', ep', hL, r'⟩) hok I.bare
/-- behind a call (or a comprehension's block): the slots of this frame may have changed too, the records at ch may have turned -/
theorem Inv.call {g' : Array GenState} {t' : Nat} {d' : Drawn} {ch : List Addr} (I : Inv X pins σ H s) (u : Un (frs X.stack) ch H H' s.heap h') (hok : HOk X.prog X.w H' h') (hg : AllBare g')
    (hch : ∀ b ∈ ch, (b ∈ X.ex ∨ X.s₀.heap.objs.size ≤ b) ∧ b ≠ X.env.locals ∧ (∀ x c, X.env.cells.lookup x = some c → c ≠ b) ∧ ∀ p ∈ X.pn ++ pins, p.1 ≠ b) :
    Inv X pins σ H' { s with heap := h', gens := g', drawn := d', toks := t' } := by
  obtain ⟨m, ⟨o, es, ep, ho, r⟩, _⟩ := id I.loc
  obtain ⟨sl, hL⟩ := u.any ho I.free fun z => (hch _ z).2.1 rfl
  exact I.step (ch := ch) hch (fun b o hL hb hc e n => u.keep b o e n (fun z => (List.mem_cons.mp (I.stkSub b z)).elim hL hb) hc) (fun b o _ _ hc e n => u.any e n hc) (fun b o hc e n => u.free b o e n hc) (fun b o hc e => u.there b o e hc) u.tups u.frzs u.tbls (fun m' hm => by
    obtain ⟨o', es', ep', ho', r'⟩ := hm
    rw [ho] at ho'; cases ho'
    exact ⟨_, es', ep', hL, r'⟩) hok hg
/-- an untracked record of ours (an iterator) has turned -/
theorem Inv.turned {t' : Nat} {it : Addr} (I : Inv X pins σ H s) (k : ∀ b o, b ≠ it → s.heap.get? b = some o → h'.get? b = some o) (hn : H it = none) (hL : it ≠ X.env.locals)
    (h1 : it ∈ X.ex ∨ X.s₀.heap.objs.size ≤ it) (h2 : ∀ x c, X.env.cells.lookup x = some c → c ≠ it) (h3 : ∀ p ∈ X.pn ++ pins, p.1 ≠ it) : Inv X pins σ H { s with heap := h', toks := t' } := by
  have nit : ∀ b u, H b = some u → b ≠ it := fun b u e z => by rw [z, hn] at e; cases e
  refine I.step (g' := s.gens) (d' := s.drawn) (ch := [it]) (fun b hb => ?_) (fun b o _ _ hc e _ => k b o (fun z => hc (by simp [z])) e) (fun b o _ _ hc e _ => ⟨o.slots, k b o (fun z => hc (by simp [z])) e⟩) (fun _ _ _ _ n => n)
    (fun b o hc e => ⟨o, k b o (fun z => hc (by simp [z])) e⟩) (fun _ _ e => e) (fun _ _ _ e => e) (fun b ps e => ⟨#[], by rw [e]; simp⟩) (fun m hm => ?_) (fun b u e => ?_) I.bare
  · have e : b = it := by simpa using hb
    subst e
    exact ⟨h1, hL, h2, h3⟩
  · obtain ⟨o, es, ep, ho, r⟩ := hm
    exact ⟨o, es, ep, k _ o (Ne.symm hL) ho, r⟩
  · refine (I.hok b u e).stay (fun c v hc q => k c v ?_ q) (fun _ q => q) fun _ _ q => q
    rcases hc with z | z
    · rw [z]; exact nit b u e
    · exact nit c _ z
theorem Inv.tok (I : Inv X pins σ H s) (t : Nat) : Inv X pins σ H { s with toks := t } := I.un (h' := s.heap) (t' := t) Un.refl I.hok
/-- all objects kept -/
theorem Inv.kept {t' : Nat} (I : Inv X pins σ H s) (k : ∀ b u, s.heap.get? b = some u → h'.get? b = some u) : Inv X pins σ H { s with heap := h', toks := t' } := I.un (Un.kept k) (I.hok.kept k)
/-- a new object laid and tracked -/
theorem Inv.laid {a : Addr} {o : HO} {t' : Nat} (I : Inv X pins σ H s) (k : ∀ b u, s.heap.get? b = some u → h'.get? b = some u) (hp : s.heap.objs.size ≤ a) (new : ObjOk X.prog X.w (upd H a o) h' a o) :
    Inv X pins σ (upd H a o) { s with heap := h', toks := t' } := I.un (Un.laid k hp (I.hok.fresh hp)) (I.hok.laid k hp new)
/-- an object written -/
theorem Inv.write {x e : Addr} {o : HO} {t' : Nat} (I : Inv X pins σ H s) (mu : Mut (H x)) (he : e = x ∨ H e = some (.own x)) (k : ∀ b u, b ≠ e → s.heap.get? b = some u → h'.get? b = some u) (heo : ∃ u, h'.get? e = some u)
    (new : ObjOk X.prog X.w (upd H x o) h' x o) : Inv X pins σ (upd H x o) { s with heap := h', toks := t' } := I.un (Un.write mu he k heo) (I.hok.write mu he k heo new)
theorem Inv.pins_of {pins' : List (Addr × Obj)} (I : Inv X pins σ H s) (h : ∀ p ∈ pins', s.heap.get? p.1 = some p.2 ∧ H p.1 = none ∧ p.1 ≠ X.env.locals ∧ p.1 ∉ X.fs ∧ ∀ v, p.2.data ≠ .cell v) : Inv X pins' σ H s :=
  ⟨I.ok, I.os, I.bare, I.base, I.loc, I.cell, I.free, I.freeC, fun p hp => (List.mem_append.mp hp).elim (fun z => I.pin p (List.mem_append_left _ z)) (h p), I.hok, I.len⟩

theorem nodup_ix {N : List Str} (hN : N.Nodup) {i j : Nat} {x : Str} (a : N[i]? = some x) (b : N[j]? = some x) : i = j := by
  obtain ⟨h1, e1⟩ := List.getElem?_eq_some_iff.mp a
  obtain ⟨h2, e2⟩ := List.getElem?_eq_some_iff.mp b
  exact (List.getElem_inj hN).mp (e1.trans e2.symm)

/-- a name is stored; what changed -/
theorem store_ok2 {M : Model} {A : Around} {E : Value → Shared → Prop} {i : Nat} {x : Str} {v : V} {u : Value} {Q : Unit → Shared → Prop} (I : Inv X pins σ H s) (hN : X.N.Nodup) (hi : X.N[i]? = some x) (hx : Loc X.env.scope x) (r : RelV v u)
    (h : ∀ s', Inv X pins (σ.set i (some v)) H s' → (∃ a, Heap.SameBut a s.heap s'.heap ∧ (a = X.env.locals ∨ X.env.cells.lookup x = some a)) → Q () s') (hf : X.fn x = true ∨ X.env.scope.names.lookup x = some .local := by first | exact .inl rfl | exact .inr rfl | assumption) : wpAny M A (storeName X.env x u) Q E s := by
  obtain ⟨m, hn, hl⟩ := id I.loc
  have hcls : (X.env.scope.kind == .class || (X.env.scope.kind == .module && X.env.locals != X.env.globals)) = false := by rw [I.ok.kind]; rfl
  have hiσ : i < σ.length := by rw [I.len]; exact (List.getElem?_eq_some_iff.mp hi).1
  have cne := I.cne
  have tracked : ∀ {a : Addr} {h' : Heap}, (∃ o, s.heap.get? a = some o ∧ H a = none) → Heap.SameBut a s.heap h' → HOk X.prog X.w H h' := fun {a h'} ha hs b ob e => by
    obtain ⟨_, _, hfree⟩ := ha
    refine (I.hok b ob e).stay (fun c w' hc q => (hs.2 c ?_).trans q) (fun _ q => q) fun _ _ q => q
    rintro rfl
    rcases hc with rfl | hc
    · rw [hfree] at e; cases e
    · rw [hfree] at hc; cases hc
  rcases hx with hk | hk
  · refine wpAny_storeName_local hk hn (fun h' hn' hs => ?_) hcls
    obtain ⟨oL, _, _, hoL, _⟩ := id hn
    refine h _ ⟨I.ok, I.os, I.bare, ⟨fun b o e n hb hx => ?_, fun b o e n hb hx => ?_, I.base.free, fun b o e hx => ?_, I.base.tups, I.base.frzs, I.base.tbls⟩, ⟨_, hn', fun j y v' e1 e2 e3 => ?_⟩, fun y c e => ?_, I.free, I.freeC, fun p hp => ?_, tracked ⟨oL, hoL, I.free⟩ hs, by simpa using I.len⟩ ⟨_, hs, .inl rfl⟩
    · exact (hs.2 b (Nat.ne_of_lt (Nat.lt_of_lt_of_le (Heap.lt_size e) I.ok.above))).trans (I.base.keep b o e n hb hx)
    · obtain ⟨sl, e1⟩ := I.base.slot b o e n hb hx
      exact ⟨sl, (hs.2 b (Nat.ne_of_lt (Nat.lt_of_lt_of_le (Heap.lt_size e) I.ok.above))).trans e1⟩
    · obtain ⟨o', e1⟩ := I.base.there b o e hx
      exact ⟨o', (hs.2 b (Nat.ne_of_lt (Nat.lt_of_lt_of_le (Heap.lt_size e) I.ok.above))).trans e1⟩
    · by_cases hj : j = i
      · subst hj
        rw [hi] at e1; cases e1
        rw [List.getElem?_set_self hiσ] at e2
        cases e2
        exact ⟨u, r, .inl ⟨hk, by simp⟩⟩
      · rw [List.getElem?_set_ne (Ne.symm hj)] at e2
        obtain ⟨u', r', q⟩ := hl j y v' e1 e2 e3
        refine ⟨u', r', ?_⟩
        rcases q with ⟨k, e⟩ | ⟨k, c, e, z⟩
        · refine .inl ⟨k, ?_⟩
          have : y ≠ x := fun e => hj (nodup_ix hN e1 (e ▸ hi))
          simp [this, e]
        · exact .inr ⟨k, c, e, z.sameBut hs (cne y c e)⟩
    · obtain ⟨w', z⟩ := I.cell y c e
      exact ⟨w', z.sameBut hs (cne y c e)⟩
    · obtain ⟨e, n, ne, nf, d⟩ := I.pin p hp
      exact ⟨(hs.2 p.1 ne).trans e, n, ne, nf, d⟩
  · have hfn : X.fn x = true := by
      rcases hf with z | z
      · exact z
      · rw [z] at hk; cases hk
    obtain ⟨c, hc⟩ := I.ok.has x (.inl hk)
    obtain ⟨w', z⟩ := I.cell x c hc
    refine wpAny_storeName_cell I.ok.kind hk hc z (fun h' hc' hs => ?_)
    obtain ⟨oc, hoc, hocd⟩ := id z
    refine h { s with heap := h' } ⟨I.ok, I.os, I.bare, ⟨fun b o e n hb hx => ?_, fun b o e n hb hx => ?_, I.base.free, fun b o e hx => ?_, I.base.tups, I.base.frzs, I.base.tbls⟩, ⟨m, hn.sameBut hs (Ne.symm (cne x c hc)), fun j y v' e1 e2 e3 => ?_⟩, fun y c' e => ?_, I.free, I.freeC, fun p hp => ?_, tracked ⟨oc, hoc, I.freeC x c hc⟩ hs, by simpa using I.len⟩ ⟨c, hs, .inr hc⟩
    · exact (hs.2 b (Nat.ne_of_lt (Nat.lt_of_lt_of_le (Heap.lt_size e) (I.ok.cab x c hfn hc)))).trans (I.base.keep b o e n hb hx)
    · obtain ⟨sl, e1⟩ := I.base.slot b o e n hb hx
      exact ⟨sl, (hs.2 b (Nat.ne_of_lt (Nat.lt_of_lt_of_le (Heap.lt_size e) (I.ok.cab x c hfn hc)))).trans e1⟩
    · obtain ⟨o', e1⟩ := I.base.there b o e hx
      exact ⟨o', (hs.2 b (Nat.ne_of_lt (Nat.lt_of_lt_of_le (Heap.lt_size e) (I.ok.cab x c hfn hc)))).trans e1⟩
    · by_cases hj : j = i
      · subst hj
        rw [hi] at e1; cases e1
        rw [List.getElem?_set_self hiσ] at e2
        cases e2
        exact ⟨u, r, .inr ⟨.inl hk, c, hc, hc'⟩⟩
      · rw [List.getElem?_set_ne (Ne.symm hj)] at e2
        obtain ⟨u', r', q⟩ := hl j y v' e1 e2 e3
        refine ⟨u', r', ?_⟩
        rcases q with q | ⟨k, c', e, z'⟩
        · exact .inl q
        · refine .inr ⟨k, c', e, z'.sameBut hs ?_⟩
          rintro rfl
          exact hj (nodup_ix hN e1 (I.ok.inj _ _ _ e hc ▸ hi))
    · by_cases hcc : c' = c
      · subst hcc; exact ⟨_, hc'⟩
      · obtain ⟨w2, z2⟩ := I.cell y c' e
        exact ⟨w2, z2.sameBut hs hcc⟩
    · obtain ⟨e, n, ne, nf, d⟩ := I.pin p hp
      refine ⟨(hs.2 p.1 ?_).trans e, n, ne, nf, d⟩
      intro q
      rw [q, hoc] at e
      have q' : oc = p.2 := Option.some.inj e
      exact d w' (by rw [← q']; exact hocd)
theorem store_ok {M : Model} {A : Around} {E : Value → Shared → Prop} {i : Nat} {x : Str} {v : V} {u : Value} {Q : Unit → Shared → Prop} (I : Inv X pins σ H s) (hN : X.N.Nodup) (hi : X.N[i]? = some x) (hx : Loc X.env.scope x) (r : RelV v u)
    (h : ∀ s', Inv X pins (σ.set i (some v)) H s' → Q () s') (hf : X.fn x = true ∨ X.env.scope.names.lookup x = some .local := by first | exact .inl rfl | exact .inr rfl | assumption) : wpAny M A (storeName X.env x u) Q E s :=
  store_ok2 I hN hi hx r (fun s' I' _ => h s' I') hf
/-- behind a call or a block, the state as it is -/
theorem Inv.call' {s' : Shared} {ch : List Addr} (I : Inv X pins σ H s) (ho : s'.os = s.os) (u : Un (frs X.stack) ch H H' s.heap s'.heap) (hok : HOk X.prog X.w H' s'.heap) (hg : AllBare s'.gens)
    (hch : ∀ b ∈ ch, (b ∈ X.ex ∨ X.s₀.heap.objs.size ≤ b) ∧ b ≠ X.env.locals ∧ (∀ x c, X.env.cells.lookup x = some c → c ≠ b) ∧ ∀ p ∈ X.pn ++ pins, p.1 ≠ b) : Inv X pins σ H' s' := by
  obtain ⟨h', g', d', t', o'⟩ := s'
  have e : o' = s.os := ho
  subst e
  exact I.call (g' := g') (t' := t') (d' := d') u hok hg hch
end

/-! ### the judgements -/
/-- an exception: its class, its own dict's address (where it has one), the abstract heap behind it -/
abbrev XK := Value → Option Addr → Hp → Prop
abbrev St := List (Option V)
abbrev VK := V → Hp → Prop
/-- an expression's reading; a test's; an argument list's -/
abbrev TE := St → Hp → VK → Prop
abbrev TT := St → Hp → (Bool → Hp → Prop) → Prop
abbrev TA := St → Hp → (List V → Hp → Prop) → Prop
/-- what is wanted behind a statement -/
structure Ends where
  nx : St → Hp → Prop
  rt : VK
  bk : St → Hp → Prop := fun _ _ => False
  ct : St → Hp → Prop := fun _ _ => False
abbrev TS := Ends → St → Hp → Prop

def EP (X : Cx) (pins : List (Addr × Obj)) (σ : St) (Q : VK) (u : Value) (s' : Shared) : Prop := ∃ v H', Inv X pins σ H' s' ∧ RelV v u ∧ Q v H'
def TP (X : Cx) (pins : List (Addr × Obj)) (σ : St) (Q : Bool → Hp → Prop) (b : Bool) (s' : Shared) : Prop := ∃ H', Inv X pins σ H' s' ∧ Q b H'
def AP (X : Cx) (pins : List (Addr × Obj)) (σ : St) (Q : List V → Hp → Prop) (us : List Value) (s' : Shared) : Prop := ∃ vs H', Inv X pins σ H' s' ∧ Vals vs us ∧ Q vs H'
def SP (X : Cx) (pins : List (Addr × Obj)) (D : Ends) (f : Flow) (s' : Shared) : Prop :=
  match f with
  | .next => ∃ σ' H', Inv X pins σ' H' s' ∧ D.nx σ' H'
  | .brk => ∃ σ' H', Inv X pins σ' H' s' ∧ D.bk σ' H'
  | .cont => ∃ σ' H', Inv X pins σ' H' s' ∧ D.ct σ' H'
  | .ret u => ∃ v σ' H', Inv X pins σ' H' s' ∧ RelV v u ∧ D.rt v H'

def PE (X : Cx) (e : Expr) (t : TE) : Prop :=
  ∀ (pins : List (Addr × Obj)) (s : Shared) (σ : St) (H : Hp) (Q : VK), Inv X pins σ H s → t σ H Q → wpAny (model X.prog X.w) X.A (eval e X.env) (EP X pins σ Q) X.xe s
def PT (X : Cx) (e : Expr) (t : TT) : Prop :=
  ∀ (pins : List (Addr × Obj)) (s : Shared) (σ : St) (H : Hp) (Q : Bool → Hp → Prop), Inv X pins σ H s → t σ H Q → wpAny (model X.prog X.w) X.A (isTrue e X.env (eval e X.env)) (TP X pins σ Q) X.xe s
/-- a test whatever its 'whole' is (and, or) -/
def PW (X : Cx) (e : Expr) (t : TT) : Prop :=
  ∀ (whole : Sem Value) (pins : List (Addr × Obj)) (s : Shared) (σ : St) (H : Hp) (Q : Bool → Hp → Prop), Inv X pins σ H s → t σ H Q → wpAny (model X.prog X.w) X.A (isTrue e X.env whole) (TP X pins σ Q) X.xe s
/-- an argument list (no star), from the left -/
def PA (X : Cx) (es : List Expr) (t : TA) : Prop :=
  ∀ (pos : Pos) (pins : List (Addr × Obj)) (s : Shared) (σ : St) (H : Hp) (Q : List V → Hp → Prop), Inv X pins σ H s → t σ H Q → wpAny (model X.prog X.w) X.A (spliced (backTo pos (starEach es X.env))) (AP X pins σ Q) X.xe s
def PS (X : Cx) (st : Stmt) (t : TS) : Prop :=
  ∀ (pins : List (Addr × Obj)) (s : Shared) (σ : St) (H : Hp) (D : Ends), Inv X pins σ H s → t D σ H → wpAny (model X.prog X.w) X.A (exec st X.env) (SP X pins D) X.xe s
def PSs (X : Cx) (st : List Stmt) (t : TS) : Prop :=
  ∀ (pins : List (Addr × Obj)) (s : Shared) (σ : St) (H : Hp) (D : Ends), Inv X pins σ H s → t D σ H → wpAny (model X.prog X.w) X.A (execs st X.env) (SP X pins D) X.xe s
/-- weaken the end -/
theorem thn {α : Type} {t : Sem α} {Q Q' : α → Shared → Prop} {M : Model} {A : Around} {E : Value → Shared → Prop} {s : Shared} (h : wpAny M A t Q E s) (hQ : ∀ a s, Q a s → Q' a s) : wpAny M A t Q' E s := wpAny_mono h hQ fun _ _ x => x
end L2

namespace L2
open PySem PySem.Spec PyProof.Rows
section
variable {X : Cx}

/-! ### names and constants -/
def tVar (i : Nat) : TE := fun σ H Q => ∃ v, σ[i]? = some (some v) ∧ Q v H
def tC (v : V) : TE := fun _ H Q => Q v H
theorem pe_var {i : Nat} {x : Str} {pos : Pos} (hN : X.N[i]? = some x) (hv : Vis X.env.scope x) (hd : (x == ("__debug__" : Str)) = false := by decide) (hcd : (x == ("__classdict__" : Str)) = false := by decide) : PE X (.Name x pos) (tVar i) := by
  intro pins s σ H Q I h
  obtain ⟨v, e, h⟩ := h
  obtain ⟨m, hn, hl⟩ := I.loc
  obtain ⟨u, r, l⟩ := hl i x v hN e hv
  have fin : EP X pins σ Q u s := ⟨v, H, I, r, h⟩
  rcases l with ⟨hk, hm⟩ | ⟨hk, c, hc, hcell⟩
  · exact wpAny_Name (wpAny_loadName_local I.ok.kind hk hn hm fin) hd
  · rcases hk with hk | hk
    · exact wpAny_Name (wpAny_loadName_cell I.ok.kind hk hc hcell fin) hd
    · exact wpAny_Name (wpAny_loadName_free I.ok.kind hk hc hcell fin hcd) hd
theorem pe_int {i j pos} : PE X (.Constant (.int i) j pos) (tC (.int i)) := fun _ _ _ H _ I h => wpAny_Constant_int ⟨.int i, H, I.tok _, ⟨_, rfl⟩, h⟩
theorem pe_bl {b j pos} : PE X (.Constant (.bool b) j pos) (tC (.bl b)) := fun _ _ _ H _ I h => Constant_bool ⟨.bl b, H, I, rfl, h⟩
theorem pe_str {x j pos} : PE X (.Constant (.str x) j pos) (tC (.str x)) := fun _ _ _ H _ I h => Calls.Constant_str ⟨.str x, H, I.tok _, ⟨_, rfl⟩, h⟩

/-- a global name of the def -/
def Gl (X : Cx) (x : Str) : Prop := X.env.kindOf x = some .globalImplicit
theorem ld_glob {E : Value → Shared → Prop} {pins : List (Addr × Obj)} {s : Shared} {σ : St} {H : Hp} {x : Str} {u : Value} {pos : Pos} {Q : Value → Shared → Prop} (I : Inv X pins σ H s) (hg : Gl X x) (hm : X.mg x = some u) (h : Q u s)
    (hd : (x == ("__debug__" : Str)) = false := by decide) : wpAny (model X.prog X.w) X.A (eval (.Name x pos) X.env) Q E s :=
  Calls.Name_function_global I.ok.kind hg (Calls.loadGlobal_global (by rw [I.ok.glob]; exact I.mod.glob.keeps I.bk) hm h) hd
theorem ld_blt {E : Value → Shared → Prop} {pins : List (Addr × Obj)} {s : Shared} {σ : St} {H : Hp} {x : Str} {u : Value} {pos : Pos} {Q : Value → Shared → Prop} (I : Inv X pins σ H s) (hg : Gl X x) (hm : X.mg x = none) (hv : bootBuiltins x = some u) (h : Q u s)
    (hn : x ≠ "__name__" := by decide) (hd : (x == ("__debug__" : Str)) = false := by decide) : wpAny (model X.prog X.w) X.A (eval (.Name x pos) X.env) Q E s := by
  obtain ⟨mb, h1, h2⟩ := I.mod.blt
  exact Calls.Name_function_global I.ok.kind hg (Calls.loadGlobal_builtin (by rw [I.ok.glob]; exact I.mod.glob.keeps I.bk) hm (by rw [I.ok.blt]; exact h1.keeps I.bk) ((h2 x hn).trans hv) h) hd
/-- a module's constant, a class, a function, as a value -/
theorem pe_glob {x : Str} {v : V} {u : Value} {pos : Pos} (hg : Gl X x) (hm : X.mg x = some u) (r : RelV v u) (hd : (x == ("__debug__" : Str)) = false := by decide) : PE X (.Name x pos) (tC v) :=
  fun _ _ _ H _ I h => ld_glob I hg hm ⟨v, H, I, r, h⟩ hd
theorem pe_bltn {x : Str} {v : V} {u : Value} {pos : Pos} (hg : Gl X x) (hm : X.mg x = none) (hv : bootBuiltins x = some u) (r : RelV v u) (hn : x ≠ "__name__" := by decide) (hd : (x == ("__debug__" : Str)) = false := by decide) : PE X (.Name x pos) (tC v) :=
  fun _ _ _ H _ I h => ld_blt I hg hm hv ⟨v, H, I, r, h⟩ hn hd

/-! ### arithmetic -/
/-- two ints -/
def t2I (ta tb : TE) (k : Int → Int → Hp → Prop) : St → Hp → Prop := fun σ H => ta σ H fun x H1 => tb σ H1 fun y H2 => ∃ i j, x = .int i ∧ y = .int j ∧ k i j H2
def tAdd (ta tb : TE) : TE := fun σ H Q => t2I ta tb (fun i j H2 => Q (.int (i + j)) H2) σ H
def tSub (ta tb : TE) : TE := fun σ H Q => t2I ta tb (fun i j H2 => Q (.int (i - j)) H2) σ H
/-- the left factor below 2^64 -/
def tMul (ta tb : TE) : TE := fun σ H Q => t2I ta tb (fun i j H2 => (-(2 ^ 64) < i ∧ i < 2 ^ 64) ∧ Q (.int (i * j)) H2) σ H
variable {a b : Expr} {ta tb : TE} {pos : Pos}
/-! ### comparisons -/
def PC (X : Cx) (op : CmpOp) (a b : Expr) (t : TE) : Prop :=
  ∀ (pins : List (Addr × Obj)) (s : Shared) (σ : St) (H : Hp) (Q : VK), Inv X pins σ H s → t σ H Q →
    wpAny (model X.prog X.w) X.A (eval a X.env) (fun v s₁ => wpAny (model X.prog X.w) X.A (eval b X.env) (fun u s₂ => wpAny (model X.prog X.w) X.A (compareOp op v u) (EP X pins σ Q) X.xe s₂) X.xe s₁) X.xe s
def tCmp (p : Int → Int → Bool) (ta tb : TE) : TE := fun σ H Q => t2I ta tb (fun i j H2 => Q (.bl (p i j)) H2) σ H
abbrev tLt : TE → TE → TE := tCmp fun i j => decide (i < j)
abbrev tLe : TE → TE → TE := tCmp fun i j => decide (i ≤ j)
abbrev tGt : TE → TE → TE := tCmp fun i j => decide (j < i)
abbrev tGe : TE → TE → TE := tCmp fun i j => decide (j ≤ i)
abbrev tEqI : TE → TE → TE := tCmp fun i j => decide (i = j)
abbrev tNeI : TE → TE → TE := tCmp fun i j => !decide (i = j)
/-- is None -/
def tIsN (ta : TE) : TE := fun σ H Q => ta σ H fun x H1 => Q (.bl (decide (x = .non))) H1
def tNotN (ta : TE) : TE := fun σ H Q => ta σ H fun x H1 => Q (.bl (!decide (x = .non))) H1
/-- a comparison as a value, as a test -/
def tB (t : TE) : TT := fun σ H Q => t σ H fun x H1 => ∃ c, x = .bl c ∧ Q c H1
/-- an expression whose value is a bool, as a test -/
theorem pt_val {e : Expr} {t : TE} (h : PE X e t) (he : ∀ whole, isTrue e X.env whole = (do let v ← whole; standAt e.pos; holding [v] (truthy v)) := by intro _; rfl) : PT X e (tB t) := by
  intro pins s σ H Q I hw
  refine isTrue_plain (thn (h pins s σ H _ I hw) fun v s1 ⟨x, H1, I1, r1, q1⟩ => ?_) (he _)
  obtain ⟨d, rfl, q⟩ := q1
  cases r1
  exact wpAny_truthy_bool ⟨H1, I1, q⟩

/-! ### and, or, not -/
variable {tA tB' : TT} {rest : List Expr}
def tAnd (t u : TT) : TT := fun σ H Q => t σ H fun c H1 => if c = true then u σ H1 Q else Q false H1
def tOr (t u : TT) : TT := fun σ H Q => t σ H fun c H1 => if c = true then Q true H1 else u σ H1 Q
def tNot (t : TT) : TT := fun σ H Q => t σ H fun c H1 => Q (!c) H1
theorem pt_not (ha : PT X a tA) : PT X (.UnaryOp .Not a pos) (tNot tA) := by
  intro pins s σ H Q I h
  exact isTrue_not (ha pins s σ H (fun c H1 => Q (!c) H1) I h)
/-- .. as values (bools) -/
def tAndV (ta tb : TE) : TE := fun σ H Q => ta σ H fun x H1 => ∃ c, x = .bl c ∧ if c = true then tb σ H1 Q else Q (.bl false) H1
def tOrV (ta tb : TE) : TE := fun σ H Q => ta σ H fun x H1 => ∃ c, x = .bl c ∧ if c = true then Q (.bl true) H1 else tb σ H1 Q
def tNotV (ta : TE) : TE := fun σ H Q => ta σ H fun x H1 => ∃ c, x = .bl c ∧ Q (.bl (!c)) H1
theorem pe_one {op} {t : TE} (h : PE X a t) : PE X (.BoolOp op [a] pos) t := fun pins s σ H Q I hw => BoolOp_one (h pins s σ H Q I hw)
theorem pe_and (ha : PE X a ta) (hb : PE X (.BoolOp .And (b :: rest) pos) tb) : PE X (.BoolOp .And (a :: b :: rest) pos) (tAndV ta tb) := by
  intro pins s σ H Q I h
  refine BoolOp_and (thn (ha pins s σ H _ I h) fun v s1 ⟨x, H1, I1, r1, q1⟩ => ?_)
  obtain ⟨c, rfl, q1⟩ := q1
  cases r1
  refine wpAny_truthy_bool ?_
  cases c with
  | true => exact hb pins s1 σ H1 Q I1 q1
  | false => exact ⟨.bl false, H1, I1, rfl, q1⟩
/-- a if t else b -/
def tIf (t : TT) (ta tb : TE) : TE := fun σ H Q => t σ H fun c H1 => if c = true then ta σ H1 Q else tb σ H1 Q
end
end L2

namespace L2
open PySem PySem.Spec PyProof.Rows

/-! ### a list, a tuple that is read: tracked, frozen, or an object of the module -/
def SqL (K : PySem.W.Frag) (H : Hp) (a : Addr) (xs : List V) : Prop :=
  Rd H a (.lst xs) ∨
    ∃ (o : Obj) (its : Array Value) (n : Nat), K.lookup a = some o ∧ o.cls = .type "list" ∧ o.dict = none ∧ o.data = .seq its n ∧ its.size ≤ sizeLine ∧ Vals xs its.toList
def SqT (K : PySem.W.Frag) (H : Hp) (a : Addr) (xs : List V) : Prop :=
  Rd H a (.tup xs) ∨
    ∃ (o : Obj) (its : Array Value) (n : Nat), K.lookup a = some o ∧ o.cls = .type "tuple" ∧ o.data = .seq its n ∧ its.size ≤ sizeLine ∧ Vals xs its.toList
def absV : Value → Option V
  | .none => some .non
  | .bool b => some (.bl b)
  | .int i _ => some (.int i)
  | .str x _ => some (.str x)
  | .bytes b _ => some (.byt b)
  | .float b _ => some (.flt b)
  | .ref a => some (.ref a)
  | .type n => some (.ty n)
  | _ => none
theorem RelV.abs {x : V} {u : Value} (r : RelV x u) : absV u = some x := by
  cases x with
  | non => cases r; rfl
  | bl _ => cases r; rfl
  | int _ => obtain ⟨t, rfl⟩ := r; rfl
  | str _ => obtain ⟨t, rfl⟩ := r; rfl
  | byt _ => obtain ⟨t, rfl⟩ := r; rfl
  | flt _ => obtain ⟨t, rfl⟩ := r; rfl
  | ref _ => cases r; rfl
  | ty _ => cases r; rfl
theorem RelV.inj {x y : V} {u : Value} (r : RelV x u) (q : RelV y u) : x = y := Option.some.inj (r.abs.symm.trans q.abs)
theorem Vals.inj : ∀ {xs ys : List V} {us : List Value}, Vals xs us → Vals ys us → xs = ys
  | _, _, _, .nil, .nil => rfl
  | _, _, _, .cons r t, .cons r' t' => by rw [r.inj r', Vals.inj t t']
section
variable {X : Cx} {pins : List (Addr × Obj)} {σ : St} {H : Hp} {s : Shared} {a : Addr} {xs ys : List V}
theorem SqL.of {K : PySem.W.Frag} (h : H a = some (.lst xs)) : SqL K H a xs := .inl (.inl h)
theorem SqT.of {K : PySem.W.Frag} (h : H a = some (.tup xs)) : SqT K H a xs := .inl (.inl h)
theorem Inv.list (I : Inv X pins σ H s) (h : SqL X.K H a xs) : ∃ its : List Value, Vals xs its ∧ PlainL s.heap a its.toArray ∧ xs.length ≤ sizeLine := by
  rcases h with h | ⟨o, its, n, hk, hc, hd, hs, hz, r⟩
  · obtain ⟨z, its, n, r, e⟩ := h.ok I.hok
    exact ⟨its, r, ⟨_, n, e, rfl, rfl, rfl⟩, z⟩
  · refine ⟨its.toList, r, ⟨o, n, I.kIn a o hk, hc, hd, by simpa using hs⟩, ?_⟩
    have e := r.length
    simp only [Array.length_toList] at e
    omega
theorem Inv.tuple (I : Inv X pins σ H s) (h : SqT X.K H a xs) : ∃ its : List Value, Vals xs its ∧ IsTup s.heap a its.toArray ∧ xs.length ≤ sizeLine := by
  rcases h with h | ⟨o, its, n, hk, hc, hs, hz, r⟩
  · obtain ⟨z, its, r, p⟩ := h.ok I.hok
    exact ⟨its, r, p, z⟩
  · refine ⟨its.toList, r, ⟨o, I.kIn a o hk, hc, n, by simpa using hs⟩, ?_⟩
    have e := r.length
    simp only [Array.length_toList] at e
    omega
end

/-! ### another wish about exceptions -/
abbrev Cx.wish (X : Cx) (E : Value → Shared → Prop) : Cx := { X with xe := E }
/-- no exception leaves -/
abbrev Cx.nox (X : Cx) : Cx := X.wish fun _ _ => False
theorem Cx.Ok.wish {X : Cx} (ok : X.Ok) (E : Value → Shared → Prop) : (X.wish E).Ok :=
  ⟨ok.mod, ok.kind, ok.glob, ok.blt, ok.above, ok.inj, ok.has, ok.cab, ok.hd, ok.frames, ok.stk, ok.exf, ok.bs, ok.bsz, ok.noex, ok.exfs, ok.funs, ok.frf⟩
theorem Cx.Ok.unwish {X : Cx} {E : Value → Shared → Prop} (ok : (X.wish E).Ok) : X.Ok :=
  ⟨ok.mod, ok.kind, ok.glob, ok.blt, ok.above, ok.inj, ok.has, ok.cab, ok.hd, ok.frames, ok.stk, ok.exf, ok.bs, ok.bsz, ok.noex, ok.exfs, ok.funs, ok.frf⟩
section
variable {X : Cx} {pins : List (Addr × Obj)} {σ : St} {H : Hp} {s : Shared} {E : Value → Shared → Prop}
theorem Inv.wish (I : Inv X pins σ H s) (E : Value → Shared → Prop) : Inv (X.wish E) pins σ H s := ⟨I.ok.wish E, I.os, I.bare, I.base, I.loc, I.cell, I.free, I.freeC, I.pin, I.hok, I.len⟩
theorem Inv.unwish (I : Inv (X.wish E) pins σ H s) : Inv X pins σ H s := ⟨I.ok.unwish, I.os, I.bare, I.base, I.loc, I.cell, I.free, I.freeC, I.pin, I.hok, I.len⟩
theorem SP.unwish {D : Ends} {f : Flow} {s' : Shared} (h : SP (X.wish E) pins D f s') : SP X pins D f s' := by
  cases f with
  | next => obtain ⟨σ', H', I, q⟩ := h; exact ⟨σ', H', I.unwish, q⟩
  | brk => obtain ⟨σ', H', I, q⟩ := h; exact ⟨σ', H', I.unwish, q⟩
  | cont => obtain ⟨σ', H', I, q⟩ := h; exact ⟨σ', H', I.unwish, q⟩
  | ret u => obtain ⟨v, σ', H', I, r, q⟩ := h; exact ⟨v, σ', H', I.unwish, r, q⟩
theorem PE.nox {e : Expr} {t : TE} (h : PE X.nox e t) : PE X e t := fun pins s σ H Q I hw =>
  wpAny_mono (h pins s σ H Q (I.wish _) hw) (fun _ _ ⟨v, H', I', r, q⟩ => ⟨v, H', I'.unwish, r, q⟩) fun _ _ z => False.elim z
theorem PT.nox {e : Expr} {t : TT} (h : PT X.nox e t) : PT X e t := fun pins s σ H Q I hw =>
  wpAny_mono (h pins s σ H Q (I.wish _) hw) (fun _ _ ⟨H', I', q⟩ => ⟨H', I'.unwish, q⟩) fun _ _ z => False.elim z
theorem PSs.nox {st : List Stmt} {t : TS} (h : PSs X.nox st t) : PSs X st t := fun pins s σ H D I hw =>
  wpAny_mono (h pins s σ H D (I.wish _) hw) (fun _ _ q => q.unwish) fun _ _ z => False.elim z
end

/-! ### blocks and small statements -/
section
variable {X : Cx} {st : Stmt} {rest : List Stmt} {t u : TS} {e : Expr} {te : TE} {pos : Pos}
def tNext : TS := fun D σ H => D.nx σ H
def tSeq (t u : TS) : TS := fun D σ H => t { D with nx := u D } σ H
theorem pss_nil : PSs X [] tNext := fun _ _ σ H _ I h => wpAny_execs_nil ⟨σ, H, I, h⟩
theorem pss_cons (h1 : PS X st t) (h2 : PSs X rest u) : PSs X (st :: rest) (tSeq t u) := by
  intro pins s σ H D I h
  refine wpAny_execs_cons (thn (h1 pins s σ H { D with nx := u D } I h) fun f s1 q => ?_)
  cases f with
  | next =>
    obtain ⟨σ', H', I', q⟩ := q
    exact h2 pins s1 σ' H' D I' q
  | ret v => exact q
  | brk => exact q
  | cont => exact q
theorem pss_one (h1 : PS X st t) : PSs X [st] t := by
  intro pins s σ H D I h
  refine wpAny_execs_cons (thn (h1 pins s σ H D I h) fun f s1 q => ?_)
  cases f with
  | next => exact wpAny_execs_nil q
  | ret v => exact q
  | brk => exact q
  | cont => exact q
def tBreak : TS := fun D σ H => D.bk σ H
def tCont : TS := fun D σ H => D.ct σ H
/-- in a def's body nothing is shown -/
theorem Inv.quiet {pins : List (Addr × Obj)} {σ : St} {H : Hp} {s : Shared} (I : Inv X pins σ H s) : interactive X.env = false := by simp [interactive, I.ok.kind]
/-- an expression whose value is dropped -/
def tDrop (te : TE) : TS := fun D σ H => te σ H fun _ H1 => D.nx σ H1
theorem ps_expr (he : PE X e te) (hs : swapsWith e none pos.line X.env = pure false := by rfl) : PS X (.Expr e pos) (tDrop te) := by
  intro pins s σ H D I h
  exact wpAny_Expr_any (thn (he pins s σ H _ I h) fun v s1 ⟨x, H1, I1, r1, q1⟩ => ⟨σ, H1, I1, q1⟩) I.quiet hs
def tRet (te : TE) : TS := fun D σ H => te σ H D.rt
theorem ps_ret (he : PE X e te) : PS X (.Return (some e) pos) (tRet te) := by
  intro pins s σ H D I h
  exact wpAny_Return_some (thn (he pins s σ H _ I h) fun v s1 ⟨x, H1, I1, r1, q1⟩ => ⟨x, σ, H1, I1, r1, q1⟩)
def tRetN : TS := fun D _ H => D.rt .non H
def tIfS (c : TT) (t u : TS) : TS := fun D σ H => c σ H fun b H1 => if b = true then t D σ H1 else u D σ H1
theorem ps_if {c : Expr} {a b : List Stmt} {tc : TT} (hc : PT X c tc) (ha : PSs X a t) (hb : PSs X b u) : PS X (.If c a b pos) (tIfS tc t u) := by
  intro pins s σ H D I h
  refine wpAny_If (thn (hc pins s σ H _ I h) fun d s1 ⟨H1, I1, q1⟩ => ?_)
  cases d with
  | true => exact ha pins s1 σ H1 D I1 q1
  | false => exact hb pins s1 σ H1 D I1 q1
/-- code that the proof never comes to -/
def tNever : TS := fun _ _ _ => False
end

/-! ### targets -/
abbrev TG := V → St → Hp → (St → Hp → Prop) → Prop
abbrev TGs := List V → St → Hp → (St → Hp → Prop) → Prop
def PG (X : Cx) (target : Expr) (t : TG) : Prop :=
  ∀ (pins : List (Addr × Obj)) (s : Shared) (σ : St) (H : Hp) (v : V) (u : Value) (Q : St → Hp → Prop), Inv X pins σ H s → RelV v u → t v σ H Q →
    wpAny (model X.prog X.w) X.A (assign target X.env u) (fun _ s' => ∃ σ' H', Inv X pins σ' H' s' ∧ Q σ' H') X.xe s
/-- several targets, one after another -/
def PGs (X : Cx) (ts : List Expr) (t : TGs) : Prop :=
  ∀ (pins : List (Addr × Obj)) (s : Shared) (σ : St) (H : Hp) (vs : List V) (us : List Value) (Q : St → Hp → Prop), Inv X pins σ H s → Vals vs us → t vs σ H Q →
    wpAny (model X.prog X.w) X.A (assignInOrder ((assignEach ts X.env).map (·.2)) us) (fun _ s' => ∃ σ' H', Inv X pins σ' H' s' ∧ Q σ' H') X.xe s
/-- o[i] = v, by values -/
abbrev TSet := V → V → V → Hp → (Hp → Prop) → Prop
def PSet (X : Cx) (t : TSet) : Prop :=
  ∀ (pins : List (Addr × Obj)) (s : Shared) (σ : St) (H : Hp) (o i v : V) (ov iv u : Value) (Q : Hp → Prop), Inv X pins σ H s → RelV o ov → RelV i iv → RelV v u → t o i v H Q →
    wpAny (model X.prog X.w) X.A (setItem ov iv u) (fun _ s' => ∃ H', Inv X pins σ H' s' ∧ Q H') X.xe s
/-- a op= b, by values -/
abbrev TIp := V → V → Hp → VK → Prop
def PIp (X : Cx) (op : Operator) (t : TIp) : Prop :=
  ∀ (pins : List (Addr × Obj)) (s : Shared) (σ : St) (H : Hp) (x y : V) (v u : Value) (Q : VK), Inv X pins σ H s → RelV x v → RelV y u → t x y H Q →
    wpAny (model X.prog X.w) X.A (inplaceOp op v u) (EP X pins σ Q) X.xe s
section
variable {X : Cx} {pos : Pos}
def gName (i : Nat) : TG := fun v σ H Q => Q (σ.set i (some v)) H
theorem pg_name {i : Nat} {x : Str} (hN : X.N.Nodup) (hi : X.N[i]? = some x) (hx : Loc X.env.scope x) (hf : X.fn x = true ∨ X.env.scope.names.lookup x = some .local := by first | exact .inl rfl | exact .inr rfl | assumption) : PG X (.Name x pos) (gName i) := by
  intro pins s σ H v u Q I r h
  exact wpAny_assign_Name (store_ok I hN hi hx r (fun s' I' => ⟨_, H, I', h⟩) hf)
def gNil : TGs := fun vs σ H Q => vs = [] ∧ Q σ H
def gCons (t : TG) (u : TGs) : TGs := fun vs σ H Q => ∃ v r, vs = v :: r ∧ t v σ H fun σ' H' => u r σ' H' Q
/-- (a, b, ..) = a tuple of that length -/
def gTup (K : PySem.W.Frag) (n : Nat) (t : TGs) : TG := fun v σ H Q => ∃ a xs, v = .ref a ∧ SqT K H a xs ∧ xs.length = n ∧ t xs σ H Q
/-- o[i] = .. -/
def gSub (to ti : TE) (t : TSet) : TG := fun v σ H Q => to σ H fun o H1 => ti σ H1 fun i H2 => t o i v H2 fun H3 => Q σ H3
/-- target = value -/
def tAsg (te : TE) (g : TG) : TS := fun D σ H => te σ H fun x H1 => g x σ H1 D.nx
/-- name = value -/
theorem ps_set {i : Nat} {x : Str} {e : Expr} {te : TE} {pos' : Pos} (hN : X.N.Nodup) (hi : X.N[i]? = some x) (hx : Loc X.env.scope x) (he : PE X e te) (hs : swapsWith e (some (.Name x pos')) pos.line X.env = pure false := by rfl) (hf : X.fn x = true ∨ X.env.scope.names.lookup x = some .local := by first | exact .inl rfl | exact .inr rfl | assumption) :
    PS X (.Assign [.Name x pos'] e pos) (tAsg te (gName i)) := by
  intro pins s σ H D I h
  refine wpAny_Assign_Name (thn (he pins s σ H _ I h) fun v s1 ⟨y, H1, I1, r1, q1⟩ => ?_) hs
  exact store_ok I1 hN hi hx r1 (fun s2 I2 => ⟨_, H1, I2, q1⟩) hf
/-- a, b = x, y with plain local names: stored from the right; the pair itself is not tracked (the opening rows as in PyProof/Rows/TupAssign.lean:23) -/
def tPar (i j : Nat) (ta : TA) : TS := fun D σ H => ta σ H fun vs H1 => ∃ v w, vs = [v, w] ∧ D.nx ((σ.set i (some v)).set j (some w)) H1
/-- name op= e -/
def tAug (i : Nat) (te : TE) (ti : TIp) : TS := fun D σ H => ∃ x, σ[i]? = some (some x) ∧ te σ H fun y H1 => ti x y H1 fun z H2 => D.nx (σ.set i (some z)) H2
/-- o[i] op= e -/
def tAugS (to ti te : TE) (tget : V → V → Hp → VK → Prop) (tip : TIp) (tset : TSet) : TS := fun D σ H => to σ H fun o H1 => ti σ H1 fun i H2 => tget o i H2 fun x H3 => te σ H3 fun y H4 => tip x y H4 fun z H5 => tset o i z H5 fun H6 => D.nx σ H6
/-- o[i], by values -/
def PGet (X : Cx) (t : V → V → Hp → VK → Prop) : Prop :=
  ∀ (pins : List (Addr × Obj)) (s : Shared) (σ : St) (H : Hp) (o i : V) (ov iv : Value) (Q : VK), Inv X pins σ H s → RelV o ov → RelV i iv → t o i H Q →
    wpAny (model X.prog X.w) X.A (getItem ov iv) (EP X pins σ Q) X.xe s
/-- ints -/
def ipI (f : Int → Int → Int) : TIp := fun x y H Q => ∃ i j, x = .int i ∧ y = .int j ∧ Q (.int (f i j)) H
end

/-! ### while -/
section
variable {X : Cx} {pos : Pos}
/-- the invariant W with its measure -/
def tWhile (c : TT) (tb : TS) : TS := fun D σ H => ∃ W : Nat → St → Hp → Prop, (∃ m, W m σ H) ∧ ∀ m σ H, W m σ H →
  c σ H fun b H1 => if b = true then ∃ N : St → Hp → Prop, (∀ σ' H', N σ' H' → ∃ m', m' < m ∧ W m' σ' H') ∧ tb { D with nx := N, ct := N, bk := D.nx } σ H1 else D.nx σ H1
end

/-! ### what a loop or a comprehension walks -/
/-- at turn i: it yields x (the heap may grow), or it stops -/
structure It where
  go : Nat → Hp → Prop
  yld : Nat → Hp → V → Hp → Prop
  stop : Nat → Hp → Prop
/-- the iterator's own objects may turn: they are not the frame's, not pinned, younger than the entry (or a comprehension's own) -/
def FpOk (X : Cx) (pins : List (Addr × Obj)) (H : Hp) (b : Addr) : Prop :=
  H b = none ∧ b ≠ X.env.locals ∧ b ∉ X.fs ∧ (b ∈ X.ex ∨ X.s₀.heap.objs.size ≤ b) ∧ (∀ x c, X.env.cells.lookup x = some c → c ≠ b) ∧ ∀ p ∈ X.pn ++ pins, p.1 ≠ b
theorem Inv.fpOk {X : Cx} {pins : List (Addr × Obj)} {σ : St} {H H' : Hp} {s : Shared} {b : Addr} (I : Inv X pins σ H s) (hb : s.heap.objs.size ≤ b) (hn : H' b = none) : FpOk X pins H' b := by
  refine ⟨hn, Nat.ne_of_gt (Nat.lt_of_lt_of_le I.lt hb), I.nofs hb, .inr (Nat.le_trans I.sz hb), fun x c e z => ?_, fun p hp z => ?_⟩
  · obtain ⟨v, q⟩ := I.cell x c e
    exact absurd (Nat.lt_of_lt_of_le q.lt (by rw [z]; exact hb)) (Nat.lt_irrefl _)
  · exact absurd (Nat.lt_of_lt_of_le (Heap.lt_size (I.pin p hp).1) (by rw [z]; exact hb)) (Nat.lt_irrefl _)
structure Turn (P : Program) (w : World) (K : PySem.W.Frag) (tg : Expr) (J : It) (fp : List Addr) (it : Addr) (tn : Nat → Heap → Prop) : Prop where
  mem : it ∈ fp
  obj : ∀ i h, tn i h → ∀ b ∈ fp, ∃ o, h.get? b = some o ∧ ∀ v, o.data ≠ .cell v
  keep : ∀ i h h', tn i h → (∀ b ∈ fp, ∀ o, h.get? b = some o → h'.get? b = some o) → tn i h'
  item : ∀ (X : Cx), X.prog = P → X.w = w → X.K = K → X.calm = true → ∀ (i : Nat) (pins : List (Addr × Obj)) (s : Shared) (σ : St) (H : Hp) (E : Value → Shared → Prop), Inv X pins σ H s → (∀ b ∈ fp, FpOk X pins H b) → tn i s.heap → J.go i H →
    wpAny (model P w) X.A (pyNext (.ref it)) (fun r s1 => ∃ u, r = some u ∧
      wpAny (model P w) X.A (letOwnedTupleGo tg (.ref it) u) (fun _ s2 => ∃ x H', Inv X pins σ H' s2 ∧ RelV x u ∧ J.yld i H x H' ∧ tn (i + 1) s2.heap ∧ ∀ b ∈ fp, H' b = none) E s1) E s
  done : ∀ (X : Cx), X.prog = P → X.w = w → X.K = K → X.calm = true → ∀ (i : Nat) (pins : List (Addr × Obj)) (s : Shared) (σ : St) (H : Hp) (E : Value → Shared → Prop), Inv X pins σ H s → (∀ b ∈ fp, FpOk X pins H b) → tn i s.heap → J.stop i H →
    wpAny (model P w) X.A (pyNext (.ref it)) (fun r s1 => r = none ∧ Inv X pins σ H s1) E s
  self : ∀ (A : Around) (i : Nat) (s : Shared) (Q : Value → Shared → Prop) (E : Value → Shared → Prop), tn i s.heap → Q (.ref it) s → wpAny (model P w) A (pyIter (.ref it)) Q E s
abbrev TI := St → Hp → (It → Hp → Prop) → Prop
/-- an iterator has come -/
def PIE (X : Cx) (pins : List (Addr × Obj)) (σ : St) (tg : Expr) (R : It → Hp → Prop) (itv : Value) (s2 : Shared) : Prop :=
  ∃ (it : Addr) (fp : List Addr) (tn : Nat → Heap → Prop) (J : It) (H' : Hp), itv = .ref it ∧ Inv X pins σ H' s2 ∧ Turn X.prog X.w X.K tg J fp it tn ∧ tn 0 s2.heap ∧ (∀ b ∈ fp, FpOk X pins H' b) ∧ R J H'
def PI (X : Cx) (tg iter : Expr) (wi : TI) : Prop :=
  ∀ (pins : List (Addr × Obj)) (s : Shared) (σ : St) (H : Hp) (R : It → Hp → Prop), Inv X pins σ H s → wi σ H R →
    wpAny (model X.prog X.w) X.A (eval iter X.env) (fun v s1 => wpAny (model X.prog X.w) X.A (pyIter v) (PIE X pins σ tg R) X.xe s1) X.xe s

/-- the step ahead of the store is nothing for an iterator that keeps no tuple -/
theorem go_of {M : Model} {A : Around} {E : Value → Shared → Prop} {s : Shared} {tg : Expr} {it : Addr} {u : Value} {o : Obj} {n : String} {vs : Array Value} {Q : Unit → Shared → Prop} (ho : s.heap.get? it = some o) (hc : o.cls = .type n) (hd : o.data = .fields vs)
    (hn : ["enumerate", "zip", "dict_itemiterator", "dict_reverseitemiterator", "odict_iterator", "itertools.zip_longest", "itertools.pairwise"].contains n = false) (hQ : Q () s) : wpAny M A (letOwnedTupleGo tg (.ref it) u) Q E s := by
  unfold letOwnedTupleGo
  cases tg <;> first
    | exact wpAny_pure hQ
    | (cases u <;> first
        | exact wpAny_pure hQ
        | (refine wpAny_bind (wpAny_load ho ?_)
           rw [hc, hd]
           show wpAny M A (if (["enumerate", "zip", "dict_itemiterator", "dict_reverseitemiterator", "odict_iterator", "itertools.zip_longest", "itertools.pairwise"].contains n && vs[0]? == some (rawInt _)) = true then _ else _) Q E s
           rw [if_neg (by intro h; rw [hn, Bool.false_and] at h; cases h)]
           exact wpAny_pure hQ))

/-- the list at a, as it stands at each turn (a loop may append to it) -/
def Itl (K : PySem.W.Frag) (a : Addr) : It :=
  ⟨fun i H => ∃ xs x, SqL K H a xs ∧ xs[i]? = some x, fun i H x H' => H' = H ∧ ∀ xs, SqL K H a xs → xs[i]? = some x, fun i H => ∃ xs, SqL K H a xs ∧ xs.length ≤ i⟩
def Itt (K : PySem.W.Frag) (a : Addr) : It :=
  ⟨fun i H => ∃ xs x, SqT K H a xs ∧ xs[i]? = some x, fun i H x H' => H' = H ∧ ∀ xs, SqT K H a xs → xs[i]? = some x, fun i H => ∃ xs, SqT K H a xs ∧ xs.length ≤ i⟩
/-- lo, lo + 1, .. (n of them) -/
def Itr (lo : Int) (n : Nat) : It := ⟨fun i _ => i < n, fun i H x H' => H' = H ∧ x = .int (lo + i), fun i _ => n ≤ i⟩
theorem turn_range {P : Program} {w : World} {K : PySem.W.Frag} {tg : Expr} (it : Addr) (lo : Int) (n : Nat) : Turn P w K tg (Itr lo n) [it] it (fun i h => IsRangeIter h it (lo + (i : Nat) * 1) ((n : Int) - (i : Nat)) 1) where
  mem := by simp
  obj := fun i h st b hb => by
    have e : b = it := by simpa using hb
    subst e
    exact ⟨_, st, fun v z => by
      have z' : Data.fields _ = Data.cell v := z
      cases z'⟩
  keep := fun i h h' st k => k it (by simp) _ st
  item := by
    intro X hP hw hK hc i pins s σ H E I hf st hg
    subst hP hw hK
    obtain ⟨f0, f1, f2, f3, f4, f5⟩ := hf it (by simp)
    have W := Walks.range (prog := X.prog) (w := X.w) (I.ok.hd hc) it lo 1 n
    refine W.item i s _ _ hg st fun v h' tk hv st' kk => ?_
    obtain ⟨t, rfl⟩ := hv
    have I1 : Inv X pins σ H { s with heap := h', toks := tk } := I.turned (fun b o hb e => kk b o (by simpa using hb) e) f0 f1 f3 f4 f5
    refine ⟨_, rfl, go_of (s := { s with heap := h', toks := tk }) (n := "range_iterator") st' rfl rfl (by decide) ⟨.int (lo + i), H, I1, ⟨t, ?_⟩, ⟨rfl, rfl⟩, st', fun b hb => (hf b hb).1⟩⟩
    rw [Int.mul_one]
  done := by
    intro X hP hw hK hc i pins s σ H E I hf st hg
    subst hP hw hK
    obtain ⟨f0, f1, f2, f3, f4, f5⟩ := hf it (by simp)
    exact wpAny_pyNext_range_end (I.ok.hd hc) st (by have : n ≤ i := hg; omega) fun h' eb => ⟨rfl, I.turned (t' := s.toks) (fun b o hb e => eb b o hb e) f0 f1 f3 f4 f5⟩
  self := fun _ _ _ _ _ st h => wpAny_pyIter_rangeiter st h
end L2

namespace L2
open PySem PySem.Spec PyProof.Rows
section
variable {X : Cx} {tg : Expr}
def iList (K : PySem.W.Frag) (tl : TE) : TI := fun σ H R => tl σ H fun x H1 => ∃ a, x = .ref a ∧ (∃ xs, SqL K H1 a xs) ∧ R (Itl K a) H1
def iTup (K : PySem.W.Frag) (tl : TE) : TI := fun σ H R => tl σ H fun x H1 => ∃ a, x = .ref a ∧ (∃ xs, SqT K H1 a xs) ∧ R (Itt K a) H1
/-- a range object just made, walked -/
theorem range_it {pins : List (Addr × Obj)} {σ : St} {H : Hp} {s : Shared} {R : It → Hp → Prop} {E : Value → Shared → Prop} {lo hi : Int} {t u v : Tok} {tk : Nat} (I : Inv X pins σ H s) (h1 : -(2 ^ 62) ≤ lo) (h2 : lo < 2 ^ 62) (h3 : -(2 ^ 62) ≤ hi) (h4 : hi < 2 ^ 62)
    (q : R (Itr lo (hi - lo).toNat) H) : wpAny (model X.prog X.w) X.A (pyIter (.ref s.heap.objs.size)) (PIE X pins σ tg R) E { s with heap := s.heap.push { cls := .type "range", data := .fields #[.int lo t, .int hi u, .int 1 v] }, toks := tk } := by
  refine wpAny_pyIter_range (IsRange.new ..) (small_one h1 h2 h3 h4) ?_
  have I1 : Inv X pins σ H { s with heap := s.heap.push { cls := .type "range", data := .fields #[.int lo t, .int hi u, .int 1 v] }, toks := tk } := I.kept fun b o e => Heap.get?_push_of_some _ e
  refine ⟨(s.heap.push { cls := .type "range", data := .fields #[.int lo t, .int hi u, .int 1 v] }).objs.size, [(s.heap.push { cls := .type "range", data := .fields #[.int lo t, .int hi u, .int 1 v] }).objs.size], _, _, H, rfl,
    I1.kept (t' := tk) fun b o e => Heap.get?_push_of_some _ e, turn_range _ lo (hi - lo).toNat, ?_, fun b hb => ?_, q⟩
  · have e1 : lo + ((0 : Nat) : Int) * 1 = lo := by simp
    have e2 : (((hi - lo).toNat : Nat) : Int) - ((0 : Nat) : Int) = Builtin.Range.rangeSize lo hi 1 := by rw [rangeSize_one]; split <;> omega
    show IsRangeIter _ _ (lo + ((0 : Nat) : Int) * 1) ((((hi - lo).toNat : Nat) : Int) - ((0 : Nat) : Int)) 1
    rw [e1, e2]
    exact Heap.get?_push_size _ rfl
  · have e : b = (s.heap.push { cls := .type "range", data := .fields #[.int lo t, .int hi u, .int 1 v] }).objs.size := by simpa using hb
    subst e
    exact I1.fpOk (Nat.le_refl _) (I1.hok.fresh (Nat.le_refl _))
def iRng1 (ta : TA) : TI := fun σ H R => ta σ H fun vs H1 => ∃ j : Int, vs = [.int j] ∧ -(2 ^ 62) ≤ j ∧ j < 2 ^ 62 ∧ R (Itr 0 j.toNat) H1
def iRng2 (ta : TA) : TI := fun σ H R => ta σ H fun vs H1 => ∃ i j : Int, vs = [.int i, .int j] ∧ (-(2 ^ 62) ≤ i ∧ i < 2 ^ 62 ∧ -(2 ^ 62) ≤ j ∧ j < 2 ^ 62) ∧ R (Itr i (j - i).toNat) H1
theorem pi_range1 {a : Expr} {ta : TA} {p pos : Pos} (hg : Gl X "range") (hm : X.mg "range" = none) (ha : PA X [a] ta) (hs : starEach [a] X.env = [(false, eval a X.env)] := by rfl) : PI X tg (.Call (.Name "range" p) [a] [] pos) (iRng1 ta) := by
  intro pins s σ H R I h
  refine Call_ (ld_blt I hg hm boot_range (PyProof.Rows.callWith_type1 (thn (ha pos pins s σ H _ I h) fun us s1 ⟨vs, H1, I1, r1, q1⟩ => ?_) hs rfl))
  obtain ⟨j, e, q1, q2, q⟩ := q1
  subst e
  cases r1 with
  | cons r rr =>
    cases rr
    obtain ⟨t, rfl⟩ := r
    exact call_range_1 (range_it I1 (by omega) (by omega) q1 q2 (by simpa using q))
/-! ### for -/
/-- W: the invariant by the turn and a measure; N: what the body is to reach -/
def tFor (wi : TI) (g : TG) (tb : TS) : TS := fun D σ H => wi σ H fun J H1 => ∃ W : Nat → Nat → St → Hp → Prop, (∃ m, W 0 m σ H1) ∧ ∀ i m σ H, W i m σ H →
  (J.stop i H ∧ D.nx σ H) ∨ (J.go i H ∧ ∃ N : St → Hp → Prop, (∀ σ' H', N σ' H' → ∃ m', m' < m ∧ W (i + 1) m' σ' H') ∧ ∀ x H', J.yld i H x H' → g x σ H' fun σ2 H2 => tb { D with nx := N, ct := N, bk := D.nx } σ2 H2)
/-- the records at fp as they stand -/
def pinsAt (fp : List Addr) (h : Heap) : List (Addr × Obj) := fp.filterMap fun b => (h.get? b).map fun o => (b, o)
theorem mem_pinsAt {fp : List Addr} {h : Heap} {b : Addr} {o : Obj} (hb : b ∈ fp) (e : h.get? b = some o) : (b, o) ∈ pinsAt fp h := List.mem_filterMap.mpr ⟨b, hb, by rw [e]; rfl⟩
theorem of_pinsAt {fp : List Addr} {h : Heap} {p : Addr × Obj} (hp : p ∈ pinsAt fp h) : p.1 ∈ fp ∧ h.get? p.1 = some p.2 := by
  obtain ⟨b, hb, e⟩ := List.mem_filterMap.mp hp
  cases q : h.get? b with
  | none => rw [q] at e; cases e
  | some o =>
    rw [q] at e
    have e' : (b, o) = p := Option.some.inj e
    subst e'
    exact ⟨hb, q⟩
theorem Inv.pinned {pins : List (Addr × Obj)} {σ : St} {H : Hp} {s : Shared} {fp : List Addr} (I : Inv X pins σ H s) (hf : ∀ b ∈ fp, FpOk X pins H b) (ho : ∀ b ∈ fp, ∃ o, s.heap.get? b = some o ∧ ∀ v, o.data ≠ .cell v) : Inv X (pins ++ pinsAt fp s.heap) σ H s :=
  I.pins_of fun p hp => (List.mem_append.mp hp).elim (fun z => I.pin p (List.mem_append_right _ z)) fun z => by
    obtain ⟨hb, e⟩ := of_pinsAt z
    obtain ⟨f0, f1, f2, _⟩ := hf p.1 hb
    obtain ⟨o, e', d⟩ := ho p.1 hb
    rw [e] at e'; cases e'
    exact ⟨e, f0, f1, f2, d⟩
theorem Inv.unpinned {pins pl : List (Addr × Obj)} {σ : St} {H : Hp} {s : Shared} (I : Inv X (pins ++ pl) σ H s) : Inv X pins σ H s := I.pins_of fun p hp => I.pin p (List.mem_append_right _ (List.mem_append_left _ hp))
theorem ps_for {iter : Expr} {body : List Stmt} {wi : TI} {g : TG} {tb : TS} {pos : Pos} (hp : PassesOwn (model X.prog X.w) X.A X.env X.xe) (hc : X.calm = true) (hi : PI X tg iter wi) (hg : PG X tg g) (hb : PSs X body tb)
    (hs : ∀ x, foldedSetIterable iter X.env x = pure x := by intro _; rfl) : PS X (.For tg iter body [] pos) (tFor wi g tb) := by
  intro pins s σ H D I h
  refine wpAny_For (thn (hi pins s σ H _ I h) fun v s1 h1 => thn h1 fun itv s2 h2 => ?_) hs
  obtain ⟨it, fp, tn, J, H2, e, I2, T, st2, f2, W, ⟨m0, w0⟩, turn⟩ := h2
  subst e
  -- what stays true of the iterator's objects through the loop
  have stat : ∀ {H' : Hp}, (∀ b ∈ fp, H' b = none) → ∀ b ∈ fp, FpOk X pins H' b := fun hn b hb => ⟨hn b hb, (f2 b hb).2⟩
  refine codeAny_forLoop_any (fun n s' => ∃ i σ' H', Inv X pins σ' H' s' ∧ tn i s'.heap ∧ (∀ b ∈ fp, H' b = none) ∧ W i n σ' H') ?_ m0 ⟨0, σ, H2, I2, st2, fun b hb => (f2 b hb).1, w0⟩
  rintro n s3 ⟨i, σ3, H3, I3, st3, fr3, w3⟩
  rcases turn i n σ3 H3 w3 with ⟨stop, qn⟩ | ⟨go, N, hN, step⟩
  · refine wpAny_passesOwn hp (thn (T.done X rfl rfl rfl hc i pins s3 σ3 H3 X.xe I3 (stat fr3) st3 stop) fun r s4 ⟨hr, I4⟩ => ?_)
    subst hr
    exact wpAny_execs_nil ⟨σ3, H3, I4, qn⟩
  · refine wpAny_passesOwn hp (thn (T.item X rfl rfl rfl hc i pins s3 σ3 H3 X.xe I3 (stat fr3) st3 go) fun r s4 ⟨u, hr, h4⟩ => ?_)
    subst hr
    refine wpAny_passesOwn hp (thn h4 fun _ s5 ⟨x, H5, I5, r5, y5, st5, fr5⟩ => ?_)
    have I5' := I5.pinned (stat fr5) (T.obj _ _ st5)
    refine wpAny_passesOwn hp (thn (hg _ s5 σ3 H5 x u _ I5' r5 (step x H5 y5)) fun _ s6 ⟨σ6, H6, I6, q6⟩ => ?_)
    refine wpAny_passesOwn hp (thn (hb _ s6 σ6 H6 _ I6 q6) fun f s7 q7 => ?_)
    have again : ∀ {σ7 : St} {H7 : Hp}, Inv X (pins ++ pinsAt fp s5.heap) σ7 H7 s7 → N σ7 H7 → ∃ m, m < n ∧ ∃ i σ' H', Inv X pins σ' H' s7 ∧ tn i s7.heap ∧ (∀ b ∈ fp, H' b = none) ∧ W i m σ' H' := fun {σ7 H7} I7 n7 => by
      obtain ⟨m', hm, w7⟩ := hN σ7 H7 n7
      refine ⟨m', hm, i + 1, σ7, H7, I7.unpinned, T.keep _ _ _ st5 fun b hb o e => (I7.pin (b, o) (List.mem_append_right _ (List.mem_append_right _ (mem_pinsAt hb e)))).1, fun b hb => ?_, w7⟩
      obtain ⟨o, e, d⟩ := T.obj _ _ st5 b hb
      exact (I7.pin (b, o) (List.mem_append_right _ (List.mem_append_right _ (mem_pinsAt hb e)))).2.1
    cases f with
    | next => obtain ⟨σ7, H7, I7, n7⟩ := q7; exact again I7 n7
    | cont => obtain ⟨σ7, H7, I7, n7⟩ := q7; exact again I7 n7
    | brk => obtain ⟨σ7, H7, I7, q7⟩ := q7; exact ⟨σ7, H7, I7.unpinned, q7⟩
    | ret v => obtain ⟨x7, σ7, H7, I7, r7, q7⟩ := q7; exact ⟨x7, σ7, H7, I7.unpinned, r7, q7⟩
end

/-! ### the forms one uses -/
theorem for_range {lo : Int} {n : Nat} {g : TG} {tb : TS} {D : Ends} {σ : St} {H : Hp} (Pv : Nat → St → Hp → Prop) (h0 : Pv 0 σ H)
    (hs : ∀ i σ H, i < n → Pv i σ H → g (.int (lo + i)) σ H fun σ2 H2 => tb { D with nx := Pv (i + 1), ct := Pv (i + 1), bk := D.nx } σ2 H2) (hd : ∀ σ H, Pv n σ H → D.nx σ H) :
    ∃ W : Nat → Nat → St → Hp → Prop, (∃ m, W 0 m σ H) ∧ ∀ i m σ H, W i m σ H →
      ((Itr lo n).stop i H ∧ D.nx σ H) ∨ ((Itr lo n).go i H ∧ ∃ N : St → Hp → Prop, (∀ σ' H', N σ' H' → ∃ m', m' < m ∧ W (i + 1) m' σ' H') ∧ ∀ x H', (Itr lo n).yld i H x H' → g x σ H' fun σ2 H2 => tb { D with nx := N, ct := N, bk := D.nx } σ2 H2) := by
  refine ⟨fun i m σ H => m = n - i ∧ i ≤ n ∧ Pv i σ H, ⟨n, by simp, Nat.zero_le _, h0⟩, ?_⟩
  rintro i m σ H ⟨rfl, hi, p⟩
  by_cases hlt : i < n
  · refine .inr ⟨hlt, Pv (i + 1), fun σ' H' p' => ⟨n - (i + 1), by omega, rfl, hlt, p'⟩, fun x H' y => ?_⟩
    obtain ⟨e, y⟩ := y
    subst e y
    exact hs i σ _ hlt p
  · have e : i = n := by omega
    subst e
    exact .inl ⟨Nat.le_refl _, hd σ H p⟩
end L2

namespace L2
open PySem PySem.Spec PyProof.Rows

abbrev R2 := V → V → Hp → VK → Prop
/-- a two-place operation on values: f is binaryOp op, inplaceOp op or compareOp op -/
def OpR (X : Cx) (f : Value → Value → Sem Value) (r : R2) : Prop :=
  ∀ (pins : List (Addr × Obj)) (s : Shared) (σ : St) (H : Hp) (x y : V) (v u : Value) (Q : VK), Inv X pins σ H s → RelV x v → RelV y u → r x y H Q →
    wpAny (model X.prog X.w) X.A (f v u) (EP X pins σ Q) X.xe s
/-- a one-place operation -/
def UnR (X : Cx) (f : Value → Sem Value) (r : V → Hp → VK → Prop) : Prop :=
  ∀ (pins : List (Addr × Obj)) (s : Shared) (σ : St) (H : Hp) (x : V) (v : Value) (Q : VK), Inv X pins σ H s → RelV x v → r x H Q →
    wpAny (model X.prog X.w) X.A (f v) (EP X pins σ Q) X.xe s
/-- a call of a value that is known (a builtin, a type) with values -/
def CallR (X : Cx) (f : Value) (r : List V → Hp → VK → Prop) : Prop :=
  ∀ (pins : List (Addr × Obj)) (s : Shared) (σ : St) (H : Hp) (xs : List V) (us : List Value) (Q : VK), Inv X pins σ H s → Vals xs us → r xs H Q →
    wpAny (model X.prog X.w) X.A (call f us) (EP X pins σ Q) X.xe s
/-- a value's truth -/
def TruR (X : Cx) (r : V → Hp → (Bool → Hp → Prop) → Prop) : Prop :=
  ∀ (pins : List (Addr × Obj)) (s : Shared) (σ : St) (H : Hp) (x : V) (v : Value) (Q : Bool → Hp → Prop), Inv X pins σ H s → RelV x v → r x H Q →
    wpAny (model X.prog X.w) X.A (truthy v) (TP X pins σ Q) X.xe s

def tOp (r : R2) (ta tb : TE) : TE := fun σ H Q => ta σ H fun x H1 => tb σ H1 fun y H2 => r x y H2 Q
def tUn (r : V → Hp → VK → Prop) (ta : TE) : TE := fun σ H Q => ta σ H fun x H1 => r x H1 Q
/-- ints in, under C, and a value out -/
def rI (C : Int → Int → Prop) (g : Int → Int → V) : R2 := fun x y H Q => ∃ i j, x = .int i ∧ y = .int j ∧ C i j ∧ Q (g i j) H
def rI0 (g : Int → Int → V) : R2 := fun x y H Q => ∃ i j, x = .int i ∧ y = .int j ∧ Q (g i j) H
def rU (g : Int → V) : V → Hp → VK → Prop := fun x H Q => ∃ i, x = .int i ∧ Q (g i) H

section
variable {X : Cx} {a b c : Expr} {ta tb tc : TE} {pos : Pos}

theorem binT (ha : PE X a ta) (hb : PE X b tb) {pins : List (Addr × Obj)} {s : Shared} {σ : St} {H : Hp} {R : V → V → Hp → Prop} (I : Inv X pins σ H s)
    (h : ta σ H fun x H1 => tb σ H1 fun y H2 => R x y H2) {Q : Value → Shared → Prop} {f : Value → Value → Sem Value}
    (hf : ∀ v u s2 x y H2, Inv X pins σ H2 s2 → RelV x v → RelV y u → R x y H2 → wpAny (model X.prog X.w) X.A (f v u) Q X.xe s2) :
    wpAny (model X.prog X.w) X.A (eval a X.env) (fun v s₁ => wpAny (model X.prog X.w) X.A (eval b X.env) (fun u s₂ => wpAny (model X.prog X.w) X.A (f v u) Q X.xe s₂) X.xe s₁) X.xe s := by
  refine thn (ha pins s σ H _ I h) fun v s1 ⟨x, H1, I1, r1, q1⟩ => ?_
  refine thn (hb pins s1 σ H1 _ I1 q1) fun u s2 ⟨y, H2, I2, r2, q2⟩ => ?_
  exact hf v u s2 x y H2 I2 r1 r2 q2

theorem pe_op {op : Operator} {r : R2} (ho : OpR X (binaryOp op) r) (ha : PE X a ta) (hb : PE X b tb) : PE X (.BinOp a op b pos) (tOp r ta tb) := by
  intro pins s σ H Q I h
  exact wpAny_BinOp (binT ha hb I h fun v u s2 x y H2 I2 rx ry q => ho pins s2 σ H2 x y v u Q I2 rx ry q)
/-! ### ints -/
theorem opI {f : Value → Value → Sem Value} {C : Int → Int → Prop} {g : Int → Int → Int}
    (rule : ∀ (i j : Int) (t u : Tok) (s : Shared) (Q : Value → Shared → Prop) (E : Value → Shared → Prop), C i j → Q (.int (g i j) s.toks) { s with toks := s.toks + 1 } → wpAny (model X.prog X.w) X.A (f (.int i t) (.int j u)) Q E s) :
    OpR X f (rI C fun i j => .int (g i j)) := by
  intro pins s σ H x y v u Q I rx ry h
  obtain ⟨i, j, rfl, rfl, hc, q⟩ := h
  obtain ⟨t, rfl⟩ := rx
  obtain ⟨t', rfl⟩ := ry
  exact rule i j t t' s _ _ hc ⟨.int (g i j), H, I.tok _, ⟨_, rfl⟩, q⟩
theorem opI0 {f : Value → Value → Sem Value} {g : Int → Int → Int}
    (rule : ∀ (i j : Int) (t u : Tok) (s : Shared) (Q : Value → Shared → Prop) (E : Value → Shared → Prop), Q (.int (g i j) s.toks) { s with toks := s.toks + 1 } → wpAny (model X.prog X.w) X.A (f (.int i t) (.int j u)) Q E s) :
    OpR X f (rI0 fun i j => .int (g i j)) := by
  intro pins s σ H x y v u Q I rx ry h
  obtain ⟨i, j, rfl, rfl, q⟩ := h
  obtain ⟨t, rfl⟩ := rx
  obtain ⟨t', rfl⟩ := ry
  exact rule i j t t' s _ _ ⟨.int (g i j), H, I.tok _, ⟨_, rfl⟩, q⟩
theorem opB0 {f : Value → Value → Sem Value} {g : Int → Int → Bool}
    (rule : ∀ (i j : Int) (t u : Tok) (s : Shared) (Q : Value → Shared → Prop) (E : Value → Shared → Prop), Q (.bool (g i j)) s → wpAny (model X.prog X.w) X.A (f (.int i t) (.int j u)) Q E s) :
    OpR X f (rI0 fun i j => .bl (g i j)) := by
  intro pins s σ H x y v u Q I rx ry h
  obtain ⟨i, j, rfl, rfl, q⟩ := h
  obtain ⟨t, rfl⟩ := rx
  obtain ⟨t', rfl⟩ := ry
  exact rule i j t t' s _ _ ⟨.bl (g i j), H, I, rfl, q⟩

def CDiv (i j : Int) : Prop := 0 < j ∧ j < 1073741824
def CDivN (i j : Int) : Prop := j ≠ 0 ∧ j.natAbs < 1073741824
def CPow (i j : Int) : Prop := 0 ≤ j ∧ j ≤ 1000000 ∧ i.natAbs < 2 ^ 64
def CMul (i j : Int) : Prop := (-(2 ^ 64) < i ∧ i < 2 ^ 64) ∨ (-(2 ^ 64) < j ∧ j < 2 ^ 64)
theorem CMul.ok {i j : Int} (h : CMul i j) : IntMulOk i j := by
  rcases h with ⟨h1, h2⟩ | ⟨h1, h2⟩
  · exact .of_left (intBits_le_64 h1 h2)
  · exact .of_right (intBits_le_64 h1 h2)
theorem op_add : OpR X (binaryOp .Add) (rI0 fun i j => .int (i + j)) := opI0 fun _ _ _ _ _ _ _ q => add_int q
theorem op_sub : OpR X (binaryOp .Sub) (rI0 fun i j => .int (i - j)) := opI0 fun _ _ _ _ _ _ _ q => sub_int q
theorem op_mul : OpR X (binaryOp .Mult) (rI CMul fun i j => .int (i * j)) := opI fun _ _ _ _ _ _ _ hc q => mul_int q hc.ok
/-- % by a positive divisor of any size -/
theorem op_mod : OpR X (binaryOp .Mod) (rI (fun _ j => 0 < j) fun i j => .int (i % j)) := opI fun i j _ _ _ _ _ hc q => by
  have h1 : (0 : Int) < j := hc
  exact mod_int' (by omega) (by rw [Int.fmod_eq_emod_of_nonneg i (by omega)]; exact q)
theorem op_pow : OpR X (binaryOp .Pow) (rI CPow fun i j => .int (i ^ j.toNat)) := opI fun _ _ _ _ _ _ _ hc q => pow_int_small hc.1 hc.2.1 hc.2.2 q
/-! ### bools among ints: n += (a < b) -/
end

/-! ### comparisons -/
/-- the scalars that == tells apart as data does -/
def scal : V → V → Bool
  | .non, .non => true | .non, .int _ => true | .int _, .non => true | .non, .bl _ => true | .bl _, .non => true | .non, .str _ => true | .str _, .non => true
  | .int _, .int _ => true | .bl _, .bl _ => true | .str _, .str _ => true | .byt _, .byt _ => true
  | .int _, .str _ => true | .str _, .int _ => true | .bl _, .str _ => true | .str _, .bl _ => true
  | _, _ => false
def rEq : R2 := fun x y H Q => scal x y = true ∧ Q (.bl (decide (x = y))) H
def rNe : R2 := fun x y H Q => scal x y = true ∧ Q (.bl (!decide (x = y))) H

section
variable {X : Cx} {a b c : Expr} {ta tb tc : TE} {pos : Pos}
theorem fin_bl {pins : List (Addr × Obj)} {σ : St} {H : Hp} {s : Shared} {Q : VK} {k k' : Bool} (I : Inv X pins σ H s) (q : Q (.bl k) H) (e : k = k') : EP X pins σ Q (.bool k') s := by
  subst e
  exact ⟨.bl k, H, I, rfl, q⟩
theorem op_lt : OpR X (compareOp .Lt) (rI0 fun i j => .bl (decide (i < j))) := opB0 fun _ _ _ _ _ _ _ q => lt_int q
theorem op_lt_str : OpR X (compareOp .Lt) (fun x y H Q => ∃ i j, x = .str i ∧ y = .str j ∧ Q (.bl (decide (i.cps.toList < j.cps.toList))) H) := by
  intro pins s σ H x y v u Q I rx ry h
  obtain ⟨i, j, rfl, rfl, q⟩ := h
  obtain ⟨t, rfl⟩ := rx
  obtain ⟨t', rfl⟩ := ry
  exact lt_str (fin_bl I q rfl)
/-- is, is not of two objects that are tracked lists or instances -/
def isObj : HO → Bool
  | .lst _ => true
  | .ins _ _ _ => true
  | _ => false
/-- two rules for one operation: by cases -/
theorem OpR.or {f : Value → Value → Sem Value} {r r' : R2} (h : OpR X f r) (h' : OpR X f r') : OpR X f (fun x y H Q => r x y H Q ∨ r' x y H Q) := by
  intro pins s σ H x y v u Q I rx ry q
  rcases q with q | q
  · exact h pins s σ H x y v u Q I rx ry q
  · exact h' pins s σ H x y v u Q I rx ry q

theorem nomark (b : Expr) {op : CmpOp} (h : op ≠ .In := by decide) (h2 : op ≠ .NotIn := by decide) : behindInMarks op b = false := by
  have e1 : (op == CmpOp.In) = false := by cases op <;> first | rfl | exact absurd rfl h
  have e2 : (op == CmpOp.NotIn) = false := by cases op <;> first | rfl | exact absurd rfl h2
  cases b <;> simp [behindInMarks, e1, e2]
/-- a comparison as a value; hm: nomark b, or (for in, not in) by with_unfolding_all rfl -/
theorem pe_cmpR {op : CmpOp} {r : R2} (ho : OpR X (compareOp op) r) (ha : PE X a ta) (hb : PE X b tb) (hm : behindInMarks op b = false) : PE X (.Compare a [op] [b] pos) (tOp r ta tb) := by
  intro pins s σ H Q I h
  exact wpAny_Compare1 (binT ha hb I h fun v u s2 x y H2 I2 rx ry q => ho pins s2 σ H2 x y v u Q I2 rx ry q) hm
/-- a reading of a value as a test -/
def tTest (t : TE) : TT := fun σ H Q => t σ H fun x H' => ∃ k, x = .bl k ∧ Q k H'
theorem pt_cmpR {op : CmpOp} {r : R2} (ho : OpR X (compareOp op) r) (ha : PE X a ta) (hb : PE X b tb) (hm : behindInMarks op b = false) : PT X (.Compare a [op] [b] pos) (tTest (tOp r ta tb)) := by
  intro pins s σ H Q I h
  refine wpAny_isTrue_Compare1 (thn (ha pins s σ H _ I h) fun v s1 ⟨x, H1, I1, r1, q1⟩ => thn (hb pins s1 σ H1 _ I1 q1) fun u s2 ⟨y, H2, I2, r2, q2⟩ =>
    thn (ho pins s2 σ H2 x y v u _ I2 r1 r2 q2) fun c s3 ⟨z, H3, I3, r3, k, e, q3⟩ => ?_) hm
  subst e
  cases r3
  exact wpAny_truthy_bool ⟨H3, I3, q3⟩
/-- a op1 b op2 c -/
def tChain (r r' : R2) (ta tb tc : TE) : TE := fun σ H Q => ta σ H fun x H1 => tb σ H1 fun y H2 => r x y H2 fun z H3 => ∃ k, z = .bl k ∧
  (if k = true then tc σ H3 fun w' H4 => r' y w' H4 Q else Q (.bl false) H3)
/-! ### truth -/
/-- a value's truth by the abstract heap -/
def TruV (K : PySem.W.Frag) (x : V) (H : Hp) (k : Bool) : Prop :=
  match x with
  | .non => k = false
  | .bl b => k = b
  | .int i => k = (i != 0)
  | .str y => y.length ≤ sizeLine ∧ k = ((y.length : Int) != 0)
  | .byt y => y.size ≤ sizeLine ∧ k = ((y.size : Int) != 0)
  | .ref p => (∃ xs, SqL K H p xs ∧ k = !xs.isEmpty) ∨ (∃ xs, SqT K H p xs ∧ k = !xs.isEmpty) ∨ ∃ kvs, H p = some (.dK kvs) ∧ k = !kvs.isEmpty
  | _ => False
theorem line63 : (sizeLine : Nat) < 2 ^ 63 := by rw [sizeLine_eq]; decide
/-! ### strs and bytes -/
theorem op_add_str : OpR X (binaryOp .Add) (fun x y H Q => ∃ i j, x = .str i ∧ y = .str j ∧ i.length + j.length ≤ sizeLine ∧ Q (.str (i ++ j)) H) := by
  intro pins s σ H x y v u Q I rx ry h
  obtain ⟨i, j, rfl, rfl, hz, q⟩ := h
  obtain ⟨t, rfl⟩ := rx
  obtain ⟨t', rfl⟩ := ry
  exact add_str (fun t' tk => ⟨.str (i ++ j), H, I.tok _, ⟨_, rfl⟩, q⟩) hz
def PlainIxT (b : Expr) : Prop := ∀ o i, subscripted b false o i = operate [o, i] (getItem o i)
/-! ### scalar builtins, by CallR -/
theorem vals1 {x : V} {us : List Value} (r : Vals [x] us) : ∃ u, us = [u] ∧ RelV x u := by
  cases r with
  | cons r1 r2 => cases r2; exact ⟨_, rfl, r1⟩
theorem vals2 {x y : V} {us : List Value} (r : Vals [x, y] us) : ∃ u w', us = [u, w'] ∧ RelV x u ∧ RelV y w' := by
  cases r with
  | cons r1 r2 =>
    cases r2 with
    | cons r3 r4 => cases r4; exact ⟨_, _, rfl, r1, r3⟩
theorem call_str_int : CallR X (.type "str") (fun xs H Q => ∃ i, xs = [.int i] ∧ i.natAbs.log2 < 1920 ∧ Q (.str (toString i)) H) := by
  intro pins s σ H xs us Q I r h
  obtain ⟨i, rfl, hz, q⟩ := h
  obtain ⟨u, rfl, t, rfl⟩ := vals1 r
  exact PySem.P.str_of_int hz ⟨.str _, H, I.tok _, ⟨_, rfl⟩, q⟩
/-- len of a str, a bytes, a list, a tuple -/
def LenV (K : PySem.W.Frag) (x : V) (H : Hp) (n : Nat) : Prop :=
  match x with
  | .str y => y.length ≤ sizeLine ∧ n = y.length
  | .byt y => y.size ≤ sizeLine ∧ n = y.size
  | .ref p => (∃ xs, SqL K H p xs ∧ n = xs.length) ∨ ∃ xs, SqT K H p xs ∧ n = xs.length
  | _ => False
theorem call_len : CallR X (.builtin "len") (fun xs H Q => ∃ x n, xs = [x] ∧ LenV X.K x H n ∧ Q (.int n) H) := by
  intro pins s σ H xs us Q I r h
  obtain ⟨x, n, rfl, e, q⟩ := h
  obtain ⟨u, rfl, rx⟩ := vals1 r
  have hl := line63
  have hs : sizeLine = 16777216 := sizeLine_eq
  cases x with
  | str y =>
    obtain ⟨t, rfl⟩ := rx
    obtain ⟨hy, e'⟩ : y.length ≤ sizeLine ∧ n = y.length := e
    subst e'
    exact len_str (by omega) ⟨.int _, H, I.tok _, ⟨_, rfl⟩, q⟩
  | byt y =>
    obtain ⟨t, rfl⟩ := rx
    obtain ⟨hy, e'⟩ : y.size ≤ sizeLine ∧ n = y.size := e
    subst e'
    exact PySem.W.len_bytes (by omega) ⟨.int _, H, I.tok _, ⟨_, rfl⟩, q⟩
  | ref p =>
    cases rx
    have e' : (∃ xs, SqL X.K H p xs ∧ n = xs.length) ∨ ∃ xs, SqT X.K H p xs ∧ n = xs.length := e
    rcases e' with ⟨xs, hx, e'⟩ | ⟨xs, hx, e'⟩
    · subst e'
      obtain ⟨its, r', pl, hz⟩ := I.list hx
      have hlen := r'.length
      exact Calls.call_len_list pl.isList (by simp only [List.size_toArray]; omega) ⟨.int xs.length, H, I.tok _, ⟨_, by simp only [List.size_toArray]; rw [hlen]⟩, q⟩
    · subst e'
      obtain ⟨its, r', pl, hz⟩ := I.tuple hx
      have hlen := r'.length
      exact len_tuple pl (by simp only [List.size_toArray]; omega) ⟨.int xs.length, H, I.tok _, ⟨_, by simp only [List.size_toArray]; rw [hlen]⟩, q⟩
  | _ => exact (show False from e).elim
end
end L2

namespace L2
open PySem PySem.Spec PyProof.Rows

/-! ### an instance, its attributes a map -/
structure ObjM (h : Heap) (x dx C : Addr) (mA : Str → Option Value) : Prop where
  obj : h.get? x = some (PySem.W.instObj C dx)
  ns : h.Ns1 dx mA
  ne : dx ≠ x

theorem lookIn_ns {h : Heap} {dx : Addr} {mA : Str → Option Value} (n : h.Ns1 dx mA) : ∃ od, h.get? dx = some od ∧ ∀ name, PySem.W.lookIn name od = some (mA name) := by
  obtain ⟨o, es, ep, ho, hd, hk, _, hm⟩ := n
  refine ⟨o, ho, fun name => ?_⟩
  have e := hm name
  unfold nsFind findBy at e
  rw [← Array.find?_toList] at e
  unfold PySem.W.lookIn
  rw [hd]
  dsimp only
  split
  · rename_i y q
    rw [q] at e
    exact congrArg some e
  · rename_i q
    rw [q] at e
    have a : es.toList.any (·.refKey) = false := by
      rw [List.any_eq_false]
      intro y hy
      obtain ⟨z, t, hkey⟩ := hk y (Array.mem_toList_iff.mp hy)
      simp [DictEntry.refKey, hkey]
    have a' : ¬ es.toList.any (·.refKey) = true := by rw [a]; exact Bool.false_ne_true
    rw [if_neg a']
    exact congrArg some e

section
variable {prog : Program} {w : World} {A : Around} {E : Value → Shared → Prop} {s : Shared} {K : PySem.W.Frag} {x dx C f : Addr} {mA : Str → Option Value} {name : Str} {v : Value}

end

/-! ### the attributes as a list of pairs -/
def putF (f : Str) (v : V) : List (Str × V) → List (Str × V)
  | [] => [(f, v)]
  | (g, x) :: r => if g = f then (g, v) :: r else (g, x) :: putF f v r
theorem RelO.some_of {v : V} {o : Option Value} (r : RelO (some v) o) : ∃ u, o = some u ∧ RelV v u := by
  cases o with
  | none => exact (show False from r).elim
  | some u => exact ⟨u, rfl, r⟩
theorem RelO.none_of {o : Option Value} (r : RelO none o) : o = none := by
  cases o with
  | none => rfl
  | some u => exact (show False from r).elim
theorem handed_of {v : V} {u : Value} (r : RelV v u) : PySem.W.handedIn u = true := by
  cases v with
  | non => cases (show u = Value.none from r); rfl
  | bl b => cases (show u = Value.bool b from r); rfl
  | int i => obtain ⟨t, e⟩ := (show ∃ t, u = Value.int i t from r); cases e; rfl
  | str x => obtain ⟨t, e⟩ := (show ∃ t, u = Value.str x t from r); cases e; rfl
  | byt b => obtain ⟨t, e⟩ := (show ∃ t, u = Value.bytes b t from r); cases e; rfl
  | flt b => obtain ⟨t, e⟩ := (show ∃ t, u = Value.float b t from r); cases e; rfl
  | ref a => cases (show u = Value.ref a from r); rfl
  | ty n => cases (show u = Value.type n from r); rfl

section
variable {P : Program} {w : World} {H H' : Hp} {h h' : Heap} {a C dx : Addr} {fs fs' : List (Str × V)}
end

/-! ### what of the text a class must have -/
structure Cls (K : PySem.W.Frag) (C : Addr) : Prop where
  pg : PySem.W.plainGet K C Str.empty = true
  hd : PySem.W.hasDictIn K C = true
  po : PySem.W.plainOver K C = true
  sa : PySem.W.findIn K (.ref C) "__setattr__" = some (some (.builtin "object.__setattr__"))
theorem Cls.get {K : PySem.W.Frag} {C : Addr} (c : Cls K C) (f : Str) : PySem.W.plainGet K C f = true := c.pg
/-- no class of it has the name -/
def NoAttr (K : PySem.W.Frag) (C : Addr) (f : Str) : Prop := PySem.W.findIn K (.ref C) f = some none
/-- a constant of the class -/
structure Con (K : PySem.W.Frag) (C : Addr) (f : Str) (v : V) (u : Value) : Prop where
  at_ : PySem.W.findIn K (.ref C) f = some (some u)
  rel : RelV v u
  get : PySem.W.specialIn K u "__get__" = some none
  cp : PySem.W.copiedNames.contains f = false
/-- a method: a plain def of the class or of one above it -/
structure Meth (K : PySem.W.Frag) (C : Addr) (m : Str) (f : Addr) : Prop where
  at_ : PySem.W.findIn K (.ref C) m = some (some (.ref f))
  fn : PySem.W.isFn K (.ref f) = true
  kp : PySem.W.keepIn K (.ref f) = true

section
variable {X : Cx} {pins : List (Addr × Obj)} {σ : St} {H : Hp} {s : Shared} {a C dx : Addr} {fs : List (Str × V)} {f : Str} {v : V} {A : Around} {E : Value → Shared → Prop}

/-- a new instance, tracked, without attributes -/
theorem Inv.made (I : Inv X pins σ H s) : Inv X pins σ (upd (upd H s.heap.objs.size (.own (s.heap.objs.size + 1))) (s.heap.objs.size + 1) (.ins C s.heap.objs.size []))
    { s with heap := (s.heap.push PySem.W.emptyDict).push (PySem.W.instObj C s.heap.objs.size) } := by
  have e1 : (s.heap.push PySem.W.emptyDict).get? s.heap.objs.size = some PySem.W.emptyDict := Heap.get?_push_size s.heap rfl
  have e2 : ((s.heap.push PySem.W.emptyDict).push (PySem.W.instObj C s.heap.objs.size)).get? (s.heap.objs.size + 1) = some (PySem.W.instObj C s.heap.objs.size) := by
    have := Heap.get?_push_size (s.heap.push PySem.W.emptyDict) (o := PySem.W.instObj C s.heap.objs.size) rfl
    rwa [Heap.size_push] at this
  have e3 : (s.heap.push PySem.W.emptyDict).Ns s.heap.objs.size (fun _ => none) := ⟨PySem.W.emptyDict, #[], _, e1, rfl, (fun e he => absurd he (by simp)), fun _ => rfl⟩
  have I1 := I.laid (a := s.heap.objs.size) (o := .own (s.heap.objs.size + 1)) (h' := s.heap.push PySem.W.emptyDict) (t' := s.toks) (fun b u q => Heap.get?_push_of_some _ q) (Nat.le_refl _) ⟨_, e1⟩
  refine I1.laid (a := s.heap.objs.size + 1) (o := .ins C s.heap.objs.size []) (t' := s.toks) (fun b u q => Heap.get?_push_of_some _ q) (Nat.le_of_eq (Heap.size_push _ _)) ?_
  have ne : s.heap.objs.size ≠ s.heap.objs.size + 1 := Nat.ne_of_lt (Nat.lt_succ_self _)
  refine ⟨by rw [upd_ne ne, upd_same], Nat.zero_le _, ne, e2, fun _ => none, (Heap.Ns1.of_empty e3).at fun o q => Heap.get?_push_of_some _ q, fun _ => True.intro, fun y hy => absurd rfl hy⟩

/-- e.f where nothing but the object is asked: through attributeBase (super) and the last hold -/
theorem attr_of {prog : Program} {w : World} {env : Env} {e : Expr} {f : Str} {pos : Pos} {s : Shared} {Q : Value → Shared → Prop} (hb : attributeBase e f env (eval e env) = eval e env)
    (h : wpAny (model prog w) A (eval e env) (fun o s₁ => wpAny (model prog w) A (getAttr o f true) Q E s₁) E s) : wpAny (model prog w) A (eval (.Attribute e f pos) env) Q E s :=
  Attribute_any_ h (by rw [arm_eval_Attribute, hb])
end

/-! ### readings and rules -/
/-- e.f, an attribute of the instance -/
def tFld (K : PySem.W.Frag) (ta : TE) (f : Str) : TE := fun σ H Q => ta σ H fun x H1 => ∃ a C dx fs v, x = .ref a ∧ H1 a = some (.ins C dx fs) ∧ Cls K C ∧ NoAttr K C f ∧ fs.lookup f = some v ∧ Q v H1
/-- e.f, a constant of the class -/
def tCon (K : PySem.W.Frag) (ta : TE) (f : Str) : TE := fun σ H Q => ta σ H fun x H1 => ∃ a C dx fs v u, x = .ref a ∧ H1 a = some (.ins C dx fs) ∧ Cls K C ∧ Con K C f v u ∧ fs.lookup f = none ∧ Q v H1
/-- e.f = value -/
def sFld (K : PySem.W.Frag) (ta tv : TE) (f : Str) : TS := fun D σ H => tv σ H fun y H1 => ta σ H1 fun x H2 => ∃ a C dx fs, x = .ref a ∧ H2 a = some (.ins C dx fs) ∧ Cls K C ∧ NoAttr K C f ∧ fs.length < 1000 ∧
  D.nx σ (upd H2 a (.ins C dx (putF f y fs)))
/-- an augmented operator on two values -/
def InOp (X : Cx) (op : Operator) (rd : V → V → Hp → VK → Prop) : Prop :=
  ∀ (pins : List (Addr × Obj)) (s : Shared) (σ : St) (H : Hp) (x y : V) (u v : Value) (Q : VK), Inv X pins σ H s → RelV x u → RelV y v → rd x y H Q → wpAny (model X.prog X.w) X.A (inplaceOp op u v) (EP X pins σ Q) X.xe s
/-- e.f op= value -/
def sFldAug (K : PySem.W.Frag) (ta tv : TE) (rd : V → V → Hp → VK → Prop) (f : Str) : TS := fun D σ H => ta σ H fun x H1 => ∃ a C dx fs v, x = .ref a ∧ H1 a = some (.ins C dx fs) ∧ Cls K C ∧ NoAttr K C f ∧ fs.lookup f = some v ∧
  tv σ H1 fun y H2 => rd v y H2 fun z H3 => ∃ dx' fs', H3 a = some (.ins C dx' fs') ∧ fs'.length < 1000 ∧ D.nx σ (upd H3 a (.ins C dx' (putF f z fs')))

section
variable {X : Cx} {o e value : Expr} {f : Str} {pos pos' tpos : Pos} {ta tv : TE}
def rAdd : V → V → Hp → VK → Prop := fun x y H Q => ∃ i j, x = .int i ∧ y = .int j ∧ Q (.int (i + j)) H
def rSub : V → V → Hp → VK → Prop := fun x y H Q => ∃ i j, x = .int i ∧ y = .int j ∧ Q (.int (i - j)) H
end

/-! ### isinstance -/
section
variable {X : Cx} {pins : List (Addr × Obj)} {σ : St} {H : Hp} {s : Shared} {A : Around} {E : Value → Shared → Prop} {Q : Value → Shared → Prop} {c : Value} {b : Bool}
/-- the type of a value, as the fragment's deciders take it; for an instance its class -/
inductive TyOf (K : PySem.W.Frag) (H : Hp) : V → Value → Prop where
  | non : TyOf K H .non (.type "NoneType")
  | bl (x : Bool) : TyOf K H (.bl x) (.type "bool")
  | int (i : Int) : TyOf K H (.int i) (.type "int")
  | str (x : Str) : TyOf K H (.str x) (.type "str")
  | flt (x : UInt64) : TyOf K H (.flt x) (.type "float")
  | lst {a : Addr} {xs : List V} (e : H a = some (.lst xs)) : TyOf K H (.ref a) (.type "list")
  | frz {a : Addr} {o : Obj} {xs : List V} (e : H a = some (.frz o (.lst xs))) : TyOf K H (.ref a) (.type "list")
  | tup {a : Addr} {xs : List V} (e : H a = some (.tup xs)) : TyOf K H (.ref a) (.type "tuple")
  | dK {a : Addr} {kvs : List (Key × V)} (e : H a = some (.dK kvs)) : TyOf K H (.ref a) (.type "dict")
  | dT {a : Addr} {kvs : List (List Key × V)} (e : H a = some (.dT kvs)) : TyOf K H (.ref a) (.type "dict")
  | ins {a C dx : Addr} {fs : List (Str × V)} (e : H a = some (.ins C dx fs)) (cl : Cls K C) (ha : PySem.W.findIn K (.ref C) "__class__" = some (some (.builtin "object.__class__")))
      (hn : PySem.W.specialIn K (.builtin "object.__class__") "__get__" = some (some (.builtin "getset_descriptor.__get__"))) (htk : PySem.W.takesIn K (.builtin "object.__class__") = some true)
      (hm : PySem.W.mroIn K C (.type "object") = some true) : TyOf K H (.ref a) (.ref C)
end
end L2

namespace L2
open PySem PySem.Spec PyProof.Rows

/-! ### room -/
structure Room (k : Nat) (A : Around) : Prop where
  hd : A.handled = none
  dp : A.depth + 3 * k + 5 < recursionLimit
  un : A.units + 16 * k + 200 < cLine
theorem Room.mono {j k : Nat} {A : Around} (r : Room k A) (h : j ≤ k) : Room j A := ⟨r.hd, by have := r.dp; omega, by have := r.un; omega⟩
theorem Room.deeper {k : Nat} {A : Around} (r : Room (k + 1) A) (env : Env) : Room k (A.deeper env) :=
  ⟨r.hd, by have := r.dp; show A.depth + 1 + 3 * k + 5 < _; omega, by have := r.un; show A.units + 3 + 16 * k + 200 < _; omega⟩
theorem Room.in1 {k : Nat} {A : Around} (r : Room (k + 1) A) : Room k A.in1 :=
  ⟨r.hd, by have := r.dp; show A.depth + 3 * k + 5 < _; omega, by have := r.un; show A.units + 1 + 16 * k + 200 < _; omega⟩
theorem make_depth {A : Around} {C : Addr} {us : List Value} {kw : List (Str × Value)} : (A.under (.builtin "type.__call__" ⟨.ref C :: us, kw⟩)).depth = A.depth + 1 := by
  first | rfl | simp [Around.under, Code.weight, Code.isCreation, Code.isGuard, Code.isCaller, Code.frames, Code.isFrame, guardIds]
theorem make_units {A : Around} {C : Addr} {us : List Value} {kw : List (Str × Value)} : (A.under (.builtin "type.__call__" ⟨.ref C :: us, kw⟩)).units = A.units + 1 := by
  first | rfl | simp [Around.under, Code.cUnits, Code.frames, Code.isFrame]
theorem Room.make {k : Nat} {A : Around} (r : Room (k + 1) A) (C : Addr) (us : List Value) (kw : List (Str × Value)) : Room k (A.under (.builtin "type.__call__" ⟨.ref C :: us, kw⟩)) :=
  ⟨r.hd, by have := r.dp; rw [make_depth]; omega, by have := r.un; rw [make_units]; omega⟩
theorem Room.depth {k : Nat} {A : Around} (r : Room k A) : A.depth < recursionLimit := by have := r.dp; omega
theorem Room.units {k : Nat} {A : Around} (r : Room k A) : A.units + 64 < cLine := by have := r.un; omega
/-! ### argument lists and displays -/
def tNil : TA := fun _ H Q => Q [] H
def tCons (ta : TE) (tr : TA) : TA := fun σ H Q => ta σ H fun x H1 => tr σ H1 fun xs H2 => Q (x :: xs) H2
section
variable {X : Cx} {e : Expr} {es : List Expr} {te : TE} {t : TA} {pos : Pos}
theorem pa_nil : PA X [] tNil := fun _ _ _ _ H Q I h => Calls.spliced_nil ⟨[], H, I, .nil, h⟩
theorem pa_cons (ha : PE X e te) (hr : PA X es t) (hs : starEach (e :: es) X.env = (false, eval e X.env) :: starEach es X.env := by rfl) : PA X (e :: es) (tCons te t) := by
  intro pos pins s σ H Q I h
  rw [hs]
  show wpAny _ _ (spliced ((false, eval e X.env) :: backTo pos (starEach es X.env))) _ _ s
  refine Calls.spliced_cons (thn (ha pins s σ H _ I h) fun u s1 ⟨x, H1, I1, r1, q1⟩ => ?_)
  exact thn (hr pos pins s1 σ H1 _ I1 q1) fun us s2 ⟨xs, H2, I2, r2, q2⟩ => ⟨x :: xs, H2, I2, .cons r1 r2, q2⟩

/-- a tuple, a list of written items -/
def tTup (t : TA) : TE := fun σ H Q => t σ H fun xs H1 => xs.length ≤ sizeLine ∧ ∀ p, H1 p = none → Q (.ref p) (upd H1 p (.tup xs))
def tLst (t : TA) : TE := fun σ H Q => t σ H fun xs H1 => xs.length ≤ sizeLine ∧ ∀ p, H1 p = none → Q (.ref p) (upd H1 p (.lst xs))
end

/-! ### what a def promises -/
/-- a def's promise: the bound arguments in the parameters' order, the heap, the wanted end, the wanted exception -/
abbrev Sp := List V → Hp → VK → XK → Prop
/-- how an exception lies behind a call (file 08 gives it): the callers' frames, abstract heap and state ahead of the call, the wish, the exception, the state -/
abbrev CXT := List Env → Hp → Shared → XK → Value → Shared → Prop

/-- the state at a call -/
structure Env0 (P : Program) (w : World) (K : PySem.W.Frag) (mg : Str → Option Value) (base : Heap) (A : Around) (outer : List Env) (s : Shared) (H : Hp) : Prop where
  frames : A.frames = some outer
  mod : Mod K mg base
  bs : ∀ b o, base.get? b = some o → s.heap.get? b = some o ∧ H b = none
  bsz : base.objs.size ≤ s.heap.objs.size
  funs : s.heap.FunFrames base outer
  frf : ∀ b ∈ frs outer, H b = none
  hok : HOk P w H s.heap
  bare : AllBare s.gens
/-- a call's end -/
def CE (outer : List Env) (P : Program) (w : World) (H : Hp) (s : Shared) (Q : VK) (u : Value) (s' : Shared) : Prop :=
  ∃ v H', s'.os = s.os ∧ AllBare s'.gens ∧ Un (frs outer) [] H H' s.heap s'.heap ∧ HOk P w H' s'.heap ∧ RelV v u ∧ Q v H'
def CR (CX : CXT) (outer : List Env) (P : Program) (w : World) (H : Hp) (s : Shared) (Q : VK) (E : XK) (r : Result) (s' : Shared) : Prop :=
  match r with
  | .ok (.ret u) => CE outer P w H s Q u s'
  | .ok _ => False
  | .error e => CX outer H s E e s'
structure FnOk (P : Program) (w : World) (K : PySem.W.Frag) (mg : Str → Option Value) (base : Heap) (CX : CXT) (k : Nat) (f : Addr) (fd : FuncData) (ps : List Str) (sp : Sp) : Prop where
  len : ∀ vs H Q E, sp vs H Q E → vs.length = ps.length
  run : ∀ (A : Around) (outer : List Env) (s : Shared) (H : Hp) (args : Args) (us : List Value) (vs : List V) (Q : VK) (E : XK), Room k A → Env0 P w K mg base A outer s H → BindsTo s fd args (ps.zip us) → Vals vs us → sp vs H Q E →
    codeAny (model P w) A (.call (.ref f) args) (CR CX outer P w H s Q E) s
theorem FnOk.mono {P : Program} {w : World} {K : PySem.W.Frag} {mg : Str → Option Value} {base : Heap} {CX : CXT} {j k : Nat} {f : Addr} {fd : FuncData} {ps : List Str} {sp : Sp} (F : FnOk P w K mg base CX j f fd ps sp) (h : j ≤ k) :
    FnOk P w K mg base CX k f fd ps sp := ⟨F.len, fun A outer s H args us vs Q E hr => F.run A outer s H args us vs Q E (hr.mono h)⟩
/-- a weaker promise -/
theorem FnOk.imp {P : Program} {w : World} {K : PySem.W.Frag} {mg : Str → Option Value} {base : Heap} {CX : CXT} {k : Nat} {f : Addr} {fd : FuncData} {ps : List Str} {sp sp' : Sp} (F : FnOk P w K mg base CX k f fd ps sp)
    (h : ∀ vs H Q E, sp' vs H Q E → sp vs H Q E) : FnOk P w K mg base CX k f fd ps sp' :=
  ⟨fun vs H Q E q => F.len vs H Q E (h _ _ _ _ q), fun A outer s H args us vs Q E hr he hb hv hs => F.run A outer s H args us vs Q E hr he hb hv (h _ _ _ _ hs)⟩

theorem Env0.make {P : Program} {w : World} {K : PySem.W.Frag} {mg : Str → Option Value} {base : Heap} {A : Around} {outer : List Env} {s : Shared} {H : Hp} (e : Env0 P w K mg base A outer s H) (C : Addr) (us : List Value) (kw : List (Str × Value)) :
    Env0 P w K mg base (A.under (.builtin "type.__call__" ⟨.ref C :: us, kw⟩)) outer s H := ⟨by first | exact e.frames | (simpa [Around.under, Code.envs, Code.isFrame, pushEnvs] using e.frames), e.mod, e.bs, e.bsz, e.funs, e.frf, e.hok, e.bare⟩
theorem Env0.in1 {P : Program} {w : World} {K : PySem.W.Frag} {mg : Str → Option Value} {base : Heap} {A : Around} {outer : List Env} {s : Shared} {H : Hp} (e : Env0 P w K mg base A outer s H) :
    Env0 P w K mg base A.in1 outer s H := ⟨e.frames, e.mod, e.bs, e.bsz, e.funs, e.frf, e.hok, e.bare⟩

section
variable {X : Cx} {pins : List (Addr × Obj)} {σ : St} {H : Hp} {s s' : Shared}
/-- from a body: what a callee wants -/
theorem Inv.env0 (I : Inv X pins σ H s) : Env0 X.prog X.w X.K X.mg X.base X.A X.stack s H :=
  ⟨I.ok.frames, I.ok.mod, I.bs, Nat.le_trans I.ok.bsz I.sz, I.stack, I.stkFree, I.hok, I.bare⟩
/-- behind a call -/
theorem Inv.after {Q : VK} {u : Value} (I : Inv X pins σ H s) (h : CE X.stack X.prog X.w H s Q u s') : EP X pins σ Q u s' := by
  obtain ⟨v, H', os, bare, un, hok, r, q⟩ := h
  obtain ⟨hh, g, d, t, os'⟩ := s'
  obtain rfl : os' = s.os := os
  exact ⟨v, H', I.call (h' := hh) (g' := g) (d' := d) (t' := t) (ch := []) un hok bare (fun b z => absurd z (by simp)), r, q⟩
end

/-! ### calls -/
/-- f(..): the written arguments, then the defaults dvs; E: what is wanted of an exception -/
def tCall (sp : Sp) (dvs : List V) (E : XK) (t : TA) : TE := fun σ H Q => t σ H fun vs H1 => sp (vs ++ dvs) H1 Q E
/-- o.m(..) of an instance of the class at C -/
def tMeth (C : Addr) (m : Str) (sp : Sp) (dvs : List V) (E : XK) (ta : TE) (t : TA) : TE := fun σ H Q => ta σ H fun x H1 => ∃ a dx fs, x = .ref a ∧ H1 a = some (.ins C dx fs) ∧ fs.lookup m = none ∧
  t σ H1 fun vs H2 => sp (x :: (vs ++ dvs)) H2 Q E
/-- C(..): a new instance and its dict, then __init__ -/
def tMake (C : Addr) (sp : Sp) (dvs : List V) (E : XK) (t : TA) : TE := fun σ H Q => t σ H fun vs H1 => ∀ x dx, H1 x = none → H1 dx = none → dx ≠ x →
  sp (.ref x :: (vs ++ dvs)) (upd (upd H1 dx (.own x)) x (.ins C dx [])) (fun v H2 => v = .non ∧ Q (.ref x) H2) E

/-- how the parameters are bound: us the positional arguments, kw the keywords' values by name, ds the defaults that fill up -/
def Binds (K : PySem.W.Frag) (fd : FuncData) (ps : List Str) (ds : List Value) : Prop :=
  ∀ (s : Shared) (us : List Value), K.In s.heap → (us ++ ds).length = ps.length → BindsTo s fd ⟨us, []⟩ (ps.zip (us ++ ds))
/-- every parameter is given -/
theorem Binds.all {K : PySem.W.Frag} {fd : FuncData} {ps : List Str} (h : ∀ us : List Value, us.length = ps.length → bindArgs fd ⟨us, []⟩ = pure (ps.zip us)) : Binds K fd ps [] := fun s us _ hl => by
  rw [List.append_nil] at hl ⊢
  exact .of_eq (h us hl)

/-- an exception of a callee reaches what this body wants of exceptions -/
def Passes (CX : CXT) (X : Cx) (E : XK) : Prop := ∀ (pins : List (Addr × Obj)) (σ : St) (H : Hp) (s : Shared) (e : Value) (s' : Shared), Inv X pins σ H s → CX X.stack H s E e s' → X.xe e s'

section
variable {X : Cx} {CX : CXT} {k : Nat} {f C : Addr} {fd : FuncData} {ps : List Str} {sp : Sp} {dvs : List V} {ds : List Value} {E : XK} {x m : Str} {p pos apos : Pos} {e o : Expr} {es : List Expr} {ta : TE} {t : TA}

/-- the callee runs -/
theorem run_fn {pins : List (Addr × Obj)} {σ : St} {H : Hp} {s : Shared} {Q : VK} {us : List Value} {vs : List V} (F : FnOk X.prog X.w X.K X.mg X.base CX k f fd ps sp) (hr : Room k X.A) (hb : Binds X.K fd ps ds) (hd : Vals dvs ds) (hx : Passes CX X E)
    (I : Inv X pins σ H s) (r : Vals vs us) (h : sp (vs ++ dvs) H Q E) : wpAny (model X.prog X.w) X.A (call (.ref f) us) (EP X pins σ Q) X.xe s := by
  have r2 : Vals (vs ++ dvs) (us ++ ds) := r.append hd
  have hl : (us ++ ds).length = ps.length := by rw [← r2.length]; exact F.len _ _ _ _ h
  refine wpAny_call (codeAny_mono (F.run X.A X.stack s H ⟨us, []⟩ (us ++ ds) (vs ++ dvs) Q E hr I.env0 (hb s us I.kIn hl) r2 h) fun r s' hq => ?_)
  cases r with
  | error e => exact hx pins σ H s e s' I hq
  | ok fl =>
    cases fl with
    | ret u => exact I.after hq
    | next => exact False.elim hq
    | brk => exact False.elim hq
    | cont => exact False.elim hq

theorem pe_call (F : FnOk X.prog X.w X.K X.mg X.base CX k f fd ps sp) (hr : Room k X.A) (hg : Gl X x) (hm : X.mg x = some (.ref f)) (hk : PySem.W.keepIn X.K (.ref f) = true) (hb : Binds X.K fd ps ds) (hd : Vals dvs ds) (hx : Passes CX X E)
    (ha : PA X (e :: es) t) (hdb : (x == ("__debug__" : Str)) = false := by decide) (he : starEach (e :: es) X.env = (false, eval e X.env) :: starEach es X.env := by rfl) (hpl : (backTo pos (starEach es X.env)).any (·.1) = false := by rfl) :
    PE X (.Call (.Name x p) (e :: es) [] pos) (tCall sp dvs E t) := by
  intro pins s σ H Q I h
  refine wpAny_Call_Name_kw (ld_glob I hg hm ?_ hdb)
  refine PySem.W.callWith_K (h₀ := X.base) I.ok.mod.kin hk (thn (ha pos pins s σ H _ I h) fun us s1 ⟨vs, H1, I1, r, q⟩ => ⟨I1.kIn, ?_⟩) he hpl
  exact run_fn F hr hb hd hx I1 r q
/-- what a class must have to be made -/
structure Mk (K : PySem.W.Frag) (C f : Addr) : Prop where
  makes : PySem.W.makesIn K C = true
  init : PySem.W.findIn K (.ref C) "__init__" = some (some (.ref f))
  fn : PySem.W.isFn K (.ref f) = true
  kp : PySem.W.keepIn K (.ref C) = true

end

/-! ### keywords -/
/-- the values of the keywords, from the left -/
def PK (X : Cx) (kws : List Keyword) (t : TA) : Prop :=
  ∀ (pos : Pos) (pins : List (Addr × Obj)) (s : Shared) (σ : St) (H : Hp) (Q : List V → Hp → Prop), Inv X pins σ H s → t σ H Q → wpAny (model X.prog X.w) X.A (evalAll ((backToKw pos (keywordEach kws X.env)).map (·.2))) (AP X pins σ Q) X.xe s
section
variable {X : Cx} {CX : CXT} {k : Nat} {f C : Addr} {fd : FuncData} {ps ks : List Str} {sp : Sp} {E : XK} {x m : Str} {p pos apos kpos : Pos} {e o : Expr} {es : List Expr} {kws : List Keyword} {te ta : TE} {t tk : TA} {nm : Option Str}
/-- how a call with keywords binds: g puts the positional values us and the keywords' values ws (names ks) in the parameters' order, defaults among them -/
structure KBinds (K : PySem.W.Frag) (fd : FuncData) (ps ks : List Str) (g : List Value → List Value → List Value) (gV : List V → List V → List V) : Prop where
  to : ∀ (s : Shared) (us ws : List Value), K.In s.heap → (g us ws).length = ps.length → BindsTo s fd ⟨us, ks.zip ws⟩ (ps.zip (g us ws))
  rel : ∀ {vs : List V} {us : List Value} {zs : List V} {ws : List Value}, Vals vs us → Vals zs ws → Vals (gV vs zs) (g us ws)
def tCallK (sp : Sp) (gV : List V → List V → List V) (E : XK) (t tk : TA) : TE := fun σ H Q => t σ H fun vs H1 => tk σ H1 fun zs H2 => sp (gV vs zs) H2 Q E
variable {g : List Value → List Value → List Value} {gV : List V → List V → List V}
end

/-! ### a def's body keeps its promise -/
/-- names: the parameters first -/
structure FnScope (N P : List Str) (sc : Scope) : Prop where
  kind : sc.kind = .function
  co : sc.isCoroutine = false
  gen : sc.isGenerator = false
  nd : N.Nodup
  pre : N.take P.length = P
  par : ∀ x ∈ P, sc.names.lookup x = some .local ∨ sc.names.lookup x = some .cell
  nofree : ∀ y ∈ sc.names, y.2 ≠ .free

theorem bindL_out {kindOf : Str → Option NameKind} {x : Str} : ∀ {binds : List (Str × Value)} {m : Str → Option Value}, (∀ v, (x, v) ∉ binds) → bindL kindOf binds m x = m x
  | [], _, _ => rfl
  | (n, v) :: r, m, h => by
    unfold bindL
    rw [bindL_out fun w hw => h w (List.mem_cons_of_mem _ hw)]
    split
    · have : x ≠ n := by rintro rfl; exact h v List.mem_cons_self
      simp [this]
    · rfl
theorem bindC_out {kindOf : Str → Option NameKind} {x : Str} : ∀ {binds : List (Str × Value)} {m : Str → Option Value}, (∀ v, (x, v) ∉ binds) → bindC kindOf binds m x = m x
  | [], _, _ => rfl
  | (n, v) :: r, m, h => by
    unfold bindC
    rw [bindC_out fun w hw => h w (List.mem_cons_of_mem _ hw)]
    split
    · rfl
    · have : x ≠ n := by rintro rfl; exact h v List.mem_cons_self
      simp [this]
theorem bindL_get {kindOf : Str → Option NameKind} {x : Str} {v : Value} : ∀ {P : List Str} {vs : List Value} {i : Nat} {m : Str → Option Value}, P.Nodup → P[i]? = some x → vs[i]? = some v → kindOf x = some .local →
    bindL kindOf (P.zip vs) m x = some v
  | [], _, _, _, _, h, _, _ => by simp at h
  | _ :: _, [], _, _, _, _, h, _ => by simp at h
  | p :: P, w :: vs, 0, m, nd, h1, h2, hk => by
    simp at h1 h2; subst h1; subst h2
    show bindL kindOf ((p, w) :: P.zip vs) m p = _
    unfold bindL
    rw [bindL_out fun v hv => (List.nodup_cons.mp nd).1 (List.of_mem_zip hv).1, if_pos hk]
    simp
  | p :: P, w :: vs, i + 1, m, nd, h1, h2, hk => by
    show bindL kindOf ((p, w) :: P.zip vs) m x = _
    unfold bindL
    exact bindL_get (i := i) (List.nodup_cons.mp nd).2 (by simpa using h1) (by simpa using h2) hk
theorem bindC_get {kindOf : Str → Option NameKind} {x : Str} {v : Value} : ∀ {P : List Str} {vs : List Value} {i : Nat} {m : Str → Option Value}, P.Nodup → P[i]? = some x → vs[i]? = some v → kindOf x ≠ some .local →
    bindC kindOf (P.zip vs) m x = some v
  | [], _, _, _, _, h, _, _ => by simp at h
  | _ :: _, [], _, _, _, _, h, _ => by simp at h
  | p :: P, w :: vs, 0, m, nd, h1, h2, hk => by
    simp at h1 h2; subst h1; subst h2
    show bindC kindOf ((p, w) :: P.zip vs) m p = _
    unfold bindC
    rw [bindC_out fun v hv => (List.nodup_cons.mp nd).1 (List.of_mem_zip hv).1, if_neg hk]
    simp
  | p :: P, w :: vs, i + 1, m, nd, h1, h2, hk => by
    show bindC kindOf ((p, w) :: P.zip vs) m x = _
    unfold bindC
    exact bindC_get (i := i) (List.nodup_cons.mp nd).2 (by simpa using h1) (by simpa using h2) hk

/-- the names' values at the entry -/
def start (N : List Str) (vs : List V) : St := vs.map some ++ List.replicate (N.length - vs.length) none

/-- the context of a def's body, at its entry; an exception leaves the frame, then lies as CX says -/
def cxOf (CX : CXT) (P : Program) (w : World) (K : PySem.W.Frag) (mg : Str → Option Value) (base : Heap) (N : List Str) (qual : Str) (scope : Scope) (f : Addr) (cd : Value) (A : Around) (outer : List Env) (s : Shared) (H : Hp) (E : XK) : Cx where
  prog := P
  w := w
  K := K
  mg := mg
  base := base
  A := A.deeper (envOfC qual scope s.heap.objs.size f cd)
  N := N
  s₀ := s
  H₀ := H
  env := envOfC qual scope s.heap.objs.size f cd
  outer := outer
  stack := envOfC qual scope s.heap.objs.size f cd :: outer
  ex := []
  calm := true
  fn := fun _ => true
  pn := []
  xe := fun e s' => wpAny (model P w) (A.deeper (envOfC qual scope s.heap.objs.size f cd)) (leaving (envOfC qual scope s.heap.objs.size f cd) e) (fun _ s'' => CX outer H s E e s'') (fun e' s'' => CX outer H s E e' s'') s'

theorem cell_has {sc : Scope} {n : Nat} {x : Str} (h : sc.names.lookup x = some .cell) : ∃ c, (cellsFrom n sc.names []).lookup x = some c := by
  have q := PySem.W.cellsFrom_some sc.names n [] (.inl h)
  exact Option.isSome_iff_exists.mp q

theorem inv_start {CX : CXT} {P : Program} {w : World} {K : PySem.W.Frag} {mg : Str → Option Value} {base : Heap} {N ps : List Str} {qual : Str} {scope : Scope} {f : Addr} {cd : Value} {A : Around} {outer : List Env} {s s1 : Shared} {H : Hp} {E : XK} {us : List Value} {vs : List V}
    (S : FnScope N ps scope) (hd : A.handled = none) (e0 : Env0 P w K mg base A outer s H) (hl : vs.length = ps.length) (r : Vals vs us)
    (x : InCallC s s.heap.objs.size (bindL (envOfC qual scope s.heap.objs.size f cd).kindOf (ps.zip us) fun _ => none) (cellsFrom (s.heap.objs.size + 1) scope.names []) (bindC (envOfC qual scope s.heap.objs.size f cd).kindOf (ps.zip us) fun _ => none) s1) :
    Inv (cxOf CX P w K mg base N qual scope f cd A outer s H E) [] (start N vs) H s1 := by
  have hpl : ps.length ≤ N.length := by have := congrArg List.length S.pre; rw [List.length_take] at this; omega
  obtain ⟨h1, tk, rfl, hk⟩ := x.done
  have noA : ∀ b : Addr, b ∉ (cxOf CX P w K mg base N qual scope f cd A outer s H E).ex := fun b z => absurd (show b ∈ ([] : List Addr) from z) (by simp)
  refine ⟨⟨e0.mod, S.kind, rfl, rfl, Nat.le_refl _, fun y z c h1 h2 => ?_, fun y hy => ?_, fun y c _ h => ?_, fun _ => hd, Around.frames_deeper e0.frames, .inr ⟨rfl, rfl⟩, fun b z => absurd z (noA b), e0.bs, e0.bsz, fun b _ _ => noA b, fun b z => absurd z (noA b), e0.funs, e0.frf⟩,
    rfl, e0.bare, Un.kept hk, ⟨_, x.toInCall.ns, fun i y v h1 h2 h3 => ?_⟩, fun y c h => ⟨_, x.cell y c h⟩, e0.hok.fresh (Nat.le_refl _), fun y c h => ?_, fun p hp => absurd (show p ∈ ([] : List (Addr × Obj)) from hp) (by simp), e0.hok.kept hk, ?_⟩
  · exact name_of_addr x.apart (PySem.mem_of_lookup h1) (PySem.mem_of_lookup h2)
  · have hy : scope.names.lookup y = some .cell ∨ scope.names.lookup y = some .free := hy
    rcases hy with hy | hy
    · exact cell_has hy
    · exact absurd rfl (S.nofree _ (PySem.mem_of_lookup hy))
  · exact Nat.le_of_lt (x.above y c (PySem.mem_of_lookup h))
  · have hi : i < vs.length := by
      unfold start at h2
      by_cases hi : i < vs.length
      · exact hi
      · rw [List.getElem?_append_right (by simpa using hi)] at h2
        rw [List.getElem?_replicate] at h2
        split at h2 <;> cases h2
    have ha : vs[i]? = some v := by
      unfold start at h2
      rw [List.getElem?_append_left (by simpa using hi), List.getElem?_map] at h2
      cases e : vs[i]? with
      | none => rw [e] at h2; cases h2
      | some a => rw [e] at h2; cases h2; rfl
    obtain ⟨u, hu, rv⟩ := r.get ha
    have hp : ps[i]? = some y := by
      rw [← S.pre, List.getElem?_take_of_lt (by omega)]; exact h1
    have ndP : ps.Nodup := by rw [← S.pre]; exact S.nd.sublist (List.take_sublist _ _)
    refine ⟨u, rv, ?_⟩
    rcases S.par y (List.mem_of_getElem? hp) with k | k
    · exact .inl ⟨k, bindL_get ndP hp hu k⟩
    · obtain ⟨c, e⟩ := cell_has (n := s.heap.objs.size + 1) k
      refine .inr ⟨.inl k, c, e, ?_⟩
      have q := x.cell y c e
      rw [bindC_get ndP hp hu (by show scope.names.lookup y ≠ _; rw [k]; decide)] at q
      exact q
  · exact e0.hok.fresh (Nat.le_of_lt (x.above y c (PySem.mem_of_lookup h)))
  · unfold start
    show _ = N.length
    rw [List.length_append, List.length_map, List.length_replicate]
    omega

/-- THE RULE: a def (or a method) of the text, by its body. The body's reading t is chosen for each entry; it is run at the parameters' values -/
theorem fn_of {CX : CXT} {P : Program} {w : World} {K : PySem.W.Frag} {mg : Str → Option Value} {base : Heap} {k : Nat} {f : Addr} {name qual : Str} {params : Arguments} {body : List Stmt} {scope : Scope} {dV kV doc pm cdv ct oc : Value} {an od : Option Addr}
    {osl : Array (Option Value)} {N ps : List Str} {sp : Sp} (lk : K.lookup f = some ⟨oc, od, .func (PySem.W.fnOf name qual params body scope dV kV doc pm an cdv ct), osl⟩) (hcd : PySem.W.codeIn K cdv qual = true) (S : FnScope N ps scope)
    (len : ∀ vs H Q E, sp vs H Q E → vs.length = ps.length)
    (hbody : ∀ (A : Around) (outer : List Env) (s : Shared) (H : Hp) (vs : List V) (Q : VK) (E : XK), Room k (A.deeper (envOfC qual scope s.heap.objs.size f cdv)) → sp vs H Q E →
      ∃ t, PSs (cxOf CX P w K mg base N qual scope f cdv A outer s H E) body t ∧ t { nx := fun _ H' => Q .non H', rt := Q } (start N vs) H) :
    FnOk P w K mg base CX (k + 1) f (PySem.W.fnOf name qual params body scope dV kV doc pm an cdv ct) ps sp := by
  refine ⟨len, fun A outer s H args us vs Q E hr e0 hb r hsp => ?_⟩
  have hl := len _ _ _ _ hsp
  have KX : K.In s.heap := e0.mod.kin.keeps fun b o e => (e0.bs b o e).1
  have lim : s.heap.NoLimit := e0.mod.nolimit.keeps fun b o e => (e0.bs b o e).1
  have hkind : ∀ y ∈ ps.zip us, scope.names.lookup y.1 = some .local ∨ (scope.names.lookup y.1 = some .cell ∧ ((cellsFrom (s.heap.objs.size + 1) scope.names []).lookup y.1).isSome = true) := fun ⟨n, v⟩ hy => by
    rcases S.par n (List.of_mem_zip hy).1 with q | q
    · exact .inl q
    · exact .inr ⟨q, PySem.W.cellsFrom_some _ _ _ (.inl q)⟩
  refine codeAny_call_function hr.depth (KX _ _ lk) rfl S.co S.gen rfl (PySem.W.codeRec_of KX hcd) (hb _ _ _ _ ?_)
  refine wpAny_newFunctionEnv_cells S.kind hkind fun env he s1 x => ?_
  subst he
  refine ⟨lim.keeps x.toInCall.keep, codeAny_func ?_⟩
  obtain ⟨t, ht, hq⟩ := hbody A outer s H vs Q E (hr.deeper _) hsp
  have I : Inv (cxOf CX P w K mg base N qual scope f cdv A outer s H E) [] (start N vs) H s1 := inv_start S hr.hd e0 hl r x
  refine wpAny_mono (ht [] s1 (start N vs) H _ I hq) (fun fl s' hs => ?_) fun e s' hs => hs
  have fin : ∀ {σ' : St} {H' : Hp} {v : V} {u : Value}, Inv (cxOf CX P w K mg base N qual scope f cdv A outer s H E) [] σ' H' s' → RelV v u → Q v H' → CE outer P w H s Q u s' :=
    fun {σ' H' v u} J rv q => ⟨v, H', J.os, J.bare, J.base, J.hok, rv, q⟩
  cases fl with
  | ret u =>
    obtain ⟨v, σ', H', J, rv, q⟩ := hs
    exact fin J rv q
  | next =>
    obtain ⟨σ', H', J, q⟩ := hs
    exact fin (v := V.non) (u := Value.none) J rfl q
  | brk =>
    obtain ⟨_, _, _, q⟩ := hs
    exact False.elim q
  | cont =>
    obtain ⟨_, _, _, q⟩ := hs
    exact False.elim q
end L2

namespace L2
open PySem PySem.Spec PyProof.Rows
section
variable {X : Cx} {x : Str} {p pos : Pos} {e : Expr} {es : List Expr} {t : TA} {id T : String} {r : List V → Hp → VK → Prop}

def tCB (r : List V → Hp → VK → Prop) (t : TA) : TE := fun σ H Q => t σ H fun vs H1 => r vs H1 Q
/-- f(e, ..), f a built-in function -/
theorem pe_callB (hc : CallR X (.builtin id) r) (hg : Gl X x) (hm : X.mg x = none) (hv : bootBuiltins x = some (.builtin id)) (ha : PA X (e :: es) t) (hn : x ≠ "__name__" := by decide) (hdb : (x == ("__debug__" : Str)) = false := by decide)
    (he : starEach (e :: es) X.env = (false, eval e X.env) :: starEach es X.env := by rfl) (hpl : (backTo pos (starEach es X.env)).any (·.1) = false := by rfl) : PE X (.Call (.Name x p) (e :: es) [] pos) (tCB r t) := by
  intro pins s σ H Q I h
  refine wpAny_Call_Name_kw (ld_blt I hg hm hv ?_ hn hdb)
  exact PyProof.Rows.callWith_builtin1 (thn (ha pos pins s σ H _ I h) fun us s1 ⟨vs, H1, I1, r1, q1⟩ => hc pins s1 σ H1 vs us Q I1 r1 q1) he hpl
/-- T(e, ..), T a built-in type -/
theorem pe_callTy (hc : CallR X (.type T) r) (hg : Gl X x) (hm : X.mg x = none) (hv : bootBuiltins x = some (.type T)) (ha : PA X (e :: es) t) (hn : x ≠ "__name__" := by decide) (hdb : (x == ("__debug__" : Str)) = false := by decide)
    (he : starEach (e :: es) X.env = (false, eval e X.env) :: starEach es X.env := by rfl) (hpl : (backTo pos (starEach es X.env)).any (·.1) = false := by rfl) : PE X (.Call (.Name x p) (e :: es) [] pos) (tCB r t) := by
  intro pins s σ H Q I h
  refine wpAny_Call_Name_kw (ld_blt I hg hm hv ?_ hn hdb)
  exact PyProof.Rows.callWith_type1 (thn (ha pos pins s σ H _ I h) fun us s1 ⟨vs, H1, I1, r1, q1⟩ => hc pins s1 σ H1 vs us Q I1 r1 q1) he hpl
end
end L2

namespace HT
open PySem PyProof.Rows

/-- t < u of tuples of ints -/
def lexLt : List Int → List Int → Bool
  | [], [] => false
  | [], _ :: _ => true
  | _ :: _, [] => false
  | x :: xs, y :: ys => if x = y then lexLt xs ys else decide (x < y)
section
open PySem.SeqAt
open PySem.AutoSeq1 (wpAny_loadPart')
open PySem.MeetsSeq PySem.MeetsSeq2 PySem.MeetsSeq3

end

section
variable {prog : Program} {w : World} {A : Around} {E : Value → Shared → Prop} {s : Shared}

/-- t + u, t not empty -/
theorem cat_tup {t b : Addr} {vs ws : List Value} {Q : Value → Shared → Prop} (ht : IsTup s.heap t vs.toArray) (hb : IsTup s.heap b ws.toArray) (hv : vs ≠ [])
    (h1 : ws = [] → Q (.ref t) s) (h2 : ws ≠ [] → Q (.ref s.heap.objs.size) { s with heap := s.heap.push { cls := .type "tuple", data := .seq (vs ++ ws).toArray } })
    (hsz : vs.length + ws.length ≤ sizeLine) : wpAny (model prog w) A (binaryOp .Add (.ref t) (.ref b)) Q E s := by
  obtain ⟨⟨cls, dd, data, sl⟩, ho, hc, n, hd⟩ := id ht
  obtain ⟨⟨cls2, dd2, data2, sl2⟩, ho2, hc2, n2, hd2⟩ := id hb
  simp only at hc hd hc2 hd2
  subst hc hd hc2 hd2
  have e : vs.toArray ++ ws.toArray = (vs ++ ws).toArray := by simp
  by_cases hw : ws = []
  · exact concat_meets ⟨_, ho, rfl⟩ ⟨_, ho2, rfl⟩ noFill_tuple_add seq_tuple_add PySem.F.slot_tuple_add PySem.F.entry_tuple_add (PySem.F.args_tuple_add_2 _ _)
      (tuple_addW1 t b vs.toArray ws.toArray n n2 dd dd2 sl sl2 (by simpa using hv) (by simp [hw])) ⟨ho, ho2, h1 hw⟩
  · refine concat_meets ⟨_, ho, rfl⟩ ⟨_, ho2, rfl⟩ noFill_tuple_add seq_tuple_add PySem.F.slot_tuple_add PySem.F.entry_tuple_add (PySem.F.args_tuple_add_2 _ _)
      (tuple_addW2 t b vs.toArray ws.toArray n n2 dd dd2 sl sl2 (by simpa using hv) (by simpa using hw) (by rw [List.size_toArray, List.size_toArray]; exact hsz)) ⟨ho, ho2, ?_⟩
    rw [e]
    exact h2 hw

/-! ### t[a:b], not the whole -/
/-- a slice's bound as a place among n (d where it is left out) -/
def sIx (n d : Nat) : Option Int → Nat
  | none => d
  | some v => if v < 0 then (v + (n : Int)).toNat else min v.toNat n
end
end HT

namespace L2
open PySem PySem.Spec PyProof.Rows

/-! ### the parts of a slice -/
abbrev TO := St → Hp → (Option Int → Hp → Prop) → Prop
/-- a slice's part (left out, or an int) -/
def PO (X : Cx) (e : Option Expr) (t : TO) : Prop :=
  ∀ (pins : List (Addr × Obj)) (s : Shared) (σ : St) (H : Hp) (Q : Option Int → Hp → Prop), Inv X pins σ H s → t σ H Q →
    wpAny (model X.prog X.w) X.A (evalPart e X.env) (fun u s' => ∃ o H', Inv X pins σ H' s' ∧ IsPart u o ∧ Q o H') X.xe s
def tNoPart : TO := fun _ H Q => Q none H
def tPart (t : TE) : TO := fun σ H Q => t σ H fun x H1 => ∃ i, x = .int i ∧ Q (some i) H1

section
variable {X : Cx} {e : Expr} {te : TE} {lo hi : Option Expr} {tl th : TO} {pos p2 : Pos}

/-- what a slice of a value is, by values: the slice object stands at sl -/
def SlR (X : Cx) (r : V → Option Int → Option Int → Hp → VK → Prop) : Prop :=
  ∀ (pins : List (Addr × Obj)) (s : Shared) (σ : St) (H : Hp) (x : V) (v vl vu : Value) (lo hi : Option Int) (sl : Addr) (Q : VK), Inv X pins σ H s → RelV x v → s.heap.IsSliceOf sl vl vu .none → IsPart vl lo → IsPart vu hi → r x lo hi H Q →
    ∃ T id, typeLookup (.type T) "__getitem__" = pure (some (.builtin id)) ∧ s.TypeIs v T ∧ wpAny (model X.prog X.w) X.A (getItem v (.ref sl)) (EP X pins σ Q) X.xe s
theorem SlR.or {r r' : V → Option Int → Option Int → Hp → VK → Prop} (h : SlR X r) (h' : SlR X r') : SlR X (fun x lo hi H Q => r x lo hi H Q ∨ r' x lo hi H Q) := by
  intro pins s σ H x v vl vu lo hi sl Q I rx hs pl pu q
  rcases q with q | q
  · exact h pins s σ H x v vl vu lo hi sl Q I rx hs pl pu q
  · exact h' pins s σ H x v vl vu lo hi sl Q I rx hs pl pu q
def tSl (r : V → Option Int → Option Int → Hp → VK → Prop) (te : TE) (tl th : TO) : TE := fun σ H Q => te σ H fun x H1 => tl σ H1 fun l H2 => th σ H2 fun u H3 => r x l u H3 Q
/-- the items of xs[lo:hi] -/
def cutV (xs : List V) (lo hi : Option Int) : List V := (xs.drop (HT.sIx xs.length 0 lo)).take (HT.sIx xs.length xs.length hi - HT.sIx xs.length 0 lo)
/-- t[lo:hi], not the whole of it (the whole would be t itself) -/
def rSlT (K : PySem.W.Frag) : V → Option Int → Option Int → Hp → VK → Prop := fun x lo hi H Q => ∃ a xs, x = .ref a ∧ SqT K H a xs ∧
  ¬ (HT.sIx xs.length 0 lo = 0 ∧ HT.sIx xs.length xs.length hi = xs.length) ∧ ∀ p, H p = none → Q (.ref p) (upd H p (.tup (cutV xs lo hi)))
/-! ### t < u, t + u -/
def rLtT (K : PySem.W.Frag) : R2 := fun x y H Q => ∃ a b ns ms, x = .ref a ∧ y = .ref b ∧ SqT K H a (ns.map V.int) ∧ SqT K H b (ms.map V.int) ∧ Q (.bl (HT.lexLt ns ms)) H
/-- t + u, t not empty: u empty gives t itself -/
def rCatT (K : PySem.W.Frag) : R2 := fun x y H Q => ∃ a b xs ys, x = .ref a ∧ y = .ref b ∧ SqT K H a xs ∧ SqT K H b ys ∧ xs ≠ [] ∧ xs.length + ys.length ≤ sizeLine ∧
  (ys = [] → Q (.ref a) H) ∧ (ys ≠ [] → ∀ p, H p = none → Q (.ref p) (upd H p (.tup (xs ++ ys))))
theorem Vals.nil_iff {xs : List V} {us : List Value} (r : Vals xs us) : us = [] ↔ xs = [] := by
  cases r with
  | nil => simp
  | cons _ _ => simp
theorem op_catT : OpR X (binaryOp .Add) (rCatT X.K) := by
  intro pins s σ H x y v u Q I rx ry h
  obtain ⟨a, b, xs, ys, rfl, rfl, ha, hb, hx, hz, q1, q2⟩ := h
  cases rx
  cases ry
  obtain ⟨its, r1, p1, _⟩ := I.tuple ha
  obtain ⟨its2, r2, p2, _⟩ := I.tuple hb
  refine HT.cat_tup p1 p2 (fun z => hx (r1.nil_iff.mp z)) (fun z => ⟨.ref a, H, I, rfl, q1 (r2.nil_iff.mp z)⟩) (fun z => ?_) (by rw [← r1.length, ← r2.length]; exact hz)
  refine ⟨.ref s.heap.objs.size, _, I.laid (t' := s.toks) (o := .tup (xs ++ ys)) (fun b ob q => Heap.get?_push_of_some _ q) (Nat.le_refl _) ?_, rfl, q2 (fun w => z (r2.nil_iff.mpr w)) _ (I.hok.fresh (Nat.le_refl _))⟩
  exact ⟨by rw [List.length_append]; exact hz, _, r1.append r2, IsTup.new _ _⟩
end
end L2

namespace L2
open PySem PySem.Spec PyProof.Rows

/-! ### places -/
/-- the place that an index of any sign means -/
def ixN (n : Nat) (i : Int) : Option Nat := if 0 ≤ i then (if i < n then some i.toNat else none) else if -(n : Int) ≤ i then some (i + n).toNat else none
def atI {α : Type} (xs : List α) (i : Int) : Option α := (ixN xs.length i).bind fun j => xs[j]?
theorem ixN_seq {n : Nat} {i : Int} {j : Nat} (h : ixN n i = some j) : seqIndex? i n = some j ∧ j < n ∧ -(n : Int) ≤ i ∧ i < n := by
  unfold ixN at h
  by_cases h0 : 0 ≤ i
  · rw [if_pos h0] at h
    by_cases h1 : i < n
    · rw [if_pos h1] at h
      have e : i.toNat = j := Option.some.inj h
      exact ⟨by rw [seqIndex_of h0 h1, e], by omega, by omega, h1⟩
    · rw [if_neg h1] at h; cases h
  · rw [if_neg h0] at h
    by_cases h1 : -(n : Int) ≤ i
    · rw [if_pos h1] at h
      have e : (i + n).toNat = j := Option.some.inj h
      exact ⟨by rw [seqIndex_neg (by omega) h1, e], by omega, h1, by omega⟩
    · rw [if_neg h1] at h; cases h
theorem atI_get {α : Type} {xs : List α} {i : Int} {v : α} (h : atI xs i = some v) : ∃ j, seqIndex? i xs.length = some j ∧ xs[j]? = some v ∧ j < xs.length ∧ -(xs.length : Int) ≤ i ∧ i < xs.length := by
  unfold atI at h
  cases e : ixN xs.length i with
  | none => rw [e] at h; cases h
  | some j =>
    rw [e] at h
    obtain ⟨h1, h2, h3, h4⟩ := ixN_seq e
    exact ⟨j, h1, h, h2, h3, h4⟩
theorem atI_nat {α : Type} {xs : List α} {j : Nat} {v : α} (h : xs[j]? = some v) : atI xs (j : Int) = some v := by
  have hj : j < xs.length := (List.getElem?_eq_some_iff.mp h).1
  have e : ixN xs.length (j : Int) = some j := by
    unfold ixN
    rw [if_pos (by omega), if_pos (by omega)]; simp
  unfold atI; rw [e]; exact h
/-! ### what may be subscripted -/
/-- what stands as an index of a plain subscript -/
def PlainIx (b : Expr) : Prop := ∀ o i, subscripted b false o i = operate [o, i] (getItem o i)
/-- a subscript by values -/
def IxR (X : Cx) (r : R2) : Prop :=
  ∀ (value slice : Expr) (pins : List (Addr × Obj)) (s : Shared) (σ : St) (H : Hp) (x y : V) (v u : Value) (Q : VK), Inv X pins σ H s → RelV x v → RelV y u → r x y H Q →
    subscripted slice false v u = operate [v, u] (getItem v u) → wpAny (model X.prog X.w) X.A (subscriptTail value slice v u) (EP X pins σ Q) X.xe s
/-- a call of a builtin's method by values: the receiver, the arguments -/
def MtR (X : Cx) (id : String) (r : V → List V → Hp → VK → Prop) : Prop :=
  ∀ (pins : List (Addr × Obj)) (s : Shared) (σ : St) (H : Hp) (x : V) (xs : List V) (v : Value) (us : List Value) (Q : VK), Inv X pins σ H s → RelV x v → Vals xs us → r x xs H Q →
    wpAny (model X.prog X.w) X.A (call (.builtin id) (v :: us)) (EP X pins σ Q) X.xe s
section
variable {X : Cx} {a b : Expr} {ta tb : TE} {pos : Pos}
theorem IxR.or {r r' : R2} (h : IxR X r) (h' : IxR X r') : IxR X (fun x y H Q => r x y H Q ∨ r' x y H Q) := by
  intro value slice pins s σ H x y v u Q I rx ry q hs
  rcases q with q | q
  · exact h value slice pins s σ H x y v u Q I rx ry q hs
  · exact h' value slice pins s σ H x y v u Q I rx ry q hs
theorem MtR.or {id : String} {r r' : V → List V → Hp → VK → Prop} (h : MtR X id r) (h' : MtR X id r') : MtR X id (fun x xs H Q => r x xs H Q ∨ r' x xs H Q) := by
  intro pins s σ H x xs v us Q I rx rs q
  rcases q with q | q
  · exact h pins s σ H x xs v us Q I rx rs q
  · exact h' pins s σ H x xs v us Q I rx rs q
/-- a[b] -/
theorem pe_ix {r : R2} (hr : IxR X r) (ha : PE X a ta) (hb : PE X b tb) (hs : PlainIx b) : PE X (.Subscript a b pos) (tOp r ta tb) := by
  intro pins s σ H Q I h
  exact Subscript_ (binT ha hb I h fun v u s2 x y H2 I2 rx ry q => hr a b pins s2 σ H2 x y v u Q I2 rx ry q (hs _ _))

def rIxL (K : PySem.W.Frag) : R2 := fun x y H Q => ∃ p xs i v, x = .ref p ∧ y = .int i ∧ SqL K H p xs ∧ atI xs i = some v ∧ Q v H
def rIxT (K : PySem.W.Frag) : R2 := fun x y H Q => ∃ p xs i v, x = .ref p ∧ y = .int i ∧ SqT K H p xs ∧ atI xs i = some v ∧ Q v H
def rIxS : R2 := fun x y H Q => ∃ z i c, x = .str z ∧ y = .int i ∧ z.length ≤ sizeLine ∧ atI z.cps.toList i = some c ∧ Q (.str ⟨#[c]⟩) H
theorem ix_list : IxR X (rIxL X.K) := by
  intro value slice pins s σ H x y v u Q I rx ry h hs
  obtain ⟨p, xs, i, z, rfl, rfl, hq, he, q⟩ := h
  cases rx
  obtain ⟨t, rfl⟩ := ry
  obtain ⟨its, r, pl, hz⟩ := I.list hq
  obtain ⟨j, h1, h2, h3, h4, h5⟩ := atI_get he
  obtain ⟨w, ew, rw'⟩ := r.get h2
  have hl := r.length
  have hn := line63
  have fin : EP X pins σ Q w s := ⟨z, H, I, rw', q⟩
  by_cases h0 : 0 ≤ i
  · have hj : i.toNat = j := by
      rw [seqIndex_of h0 h5] at h1
      exact Option.some.inj h1
    exact item_listR pl.isList h0 (by omega) (by rw [hj]; simpa using ew) fin hs
  · have hj : (i + (its.toArray.size : Int)).toNat = j := by
      rw [seqIndex_neg (by omega) h4] at h1
      rw [List.size_toArray, ← hl]
      exact Option.some.inj h1
    exact subscriptTail_builtinR (x := w) pl.isList.typeIs slot_list_getitem.lookup
      (wpAny_getItem_list_neg (Q := fun r s' => r = w ∧ EP X pins σ Q r s') pl.isList (by omega) (by rw [List.size_toArray] <;> omega) (by omega) (by rw [hj]; simpa using ew) ⟨rfl, fin⟩) hs
theorem ix_tup : IxR X (rIxT X.K) := by
  intro value slice pins s σ H x y v u Q I rx ry h hs
  obtain ⟨p, xs, i, z, rfl, rfl, hq, he, q⟩ := h
  cases rx
  obtain ⟨t, rfl⟩ := ry
  obtain ⟨its, r, pl, hz⟩ := I.tuple hq
  obtain ⟨j, h1, h2, h3, h4, h5⟩ := atI_get he
  obtain ⟨w, ew, rw'⟩ := r.get h2
  have hl := r.length
  have hn := line63
  have fin : EP X pins σ Q w s := ⟨z, H, I, rw', q⟩
  exact subscriptTail_builtinR (x := w) pl.typeIs slot_tuple_getitem.lookup
    (getItem_tuple (j := j) (Q := fun r s' => r = w ∧ EP X pins σ Q r s') pl (by omega) (by omega) (by rw [List.size_toArray, ← hl]; exact h1) (by simpa using ew) ⟨rfl, fin⟩) hs
theorem ix_str : IxR X rIxS := by
  intro value slice pins s σ H x y v u Q I rx ry h hs
  obtain ⟨z, i, c, rfl, rfl, hz, he, q⟩ := h
  obtain ⟨t, rfl⟩ := rx
  obtain ⟨t', rfl⟩ := ry
  obtain ⟨j, h1, h2, h3, h4, h5⟩ := atI_get he
  have hl : z.cps.toList.length = z.length := by simp [Str.length]
  rw [hl] at h1 h4 h5
  have hn := line63
  exact tail_any (typeIs_str s z t) slot_str_getitem.lookup (getItem_str (c := c) (by
    have e1 : decide (i < -(2 ^ 63 : Int)) = false := decide_eq_false (by omega)
    have e2 : decide (i ≥ 2 ^ 63) = false := decide_eq_false (by omega)
    rw [e1, e2, Bool.or_false]) (by rw [h1]; simpa using h2) ⟨.str ⟨#[c]⟩, H, I.tok _, ⟨_, rfl⟩, q⟩) hs
/-- list, tuple or str -/
def rIx (K : PySem.W.Frag) : R2 := fun x y H Q => rIxL K x y H Q ∨ rIxT K x y H Q ∨ rIxS x y H Q
theorem ix_seq : IxR X (rIx X.K) := ix_list.or (ix_tup.or ix_str)

/-! ### xs[i] = v, any sign -/
theorem Inv.lst {pins : List (Addr × Obj)} {σ : St} {H : Hp} {s : Shared} {p : Addr} {xs : List V} (I : Inv X pins σ H s) (h : H p = some (.lst xs)) :
    ∃ (its : List Value) (n : Nat), Vals xs its ∧ s.heap.get? p = some { cls := .type "list", data := .seq its.toArray n } ∧ xs.length ≤ sizeLine := by
  obtain ⟨z, its, n, r, e⟩ := I.hok p _ h
  exact ⟨its, n, r, e, z⟩
def rSetL : V → V → V → Hp → (Hp → Prop) → Prop := fun o i v H Q => ∃ p xs k j, o = .ref p ∧ i = .int k ∧ H p = some (.lst xs) ∧ ixN xs.length k = some j ∧ Q (upd H p (.lst (xs.set j v)))
/-! ### slices -/
/-- xs[lo:hi] of a list: a new list -/
def rSlL (K : PySem.W.Frag) : V → Option Int → Option Int → Hp → VK → Prop := fun x lo hi H Q => ∃ a xs, x = .ref a ∧ SqL K H a xs ∧ ∀ p, H p = none → Q (.ref p) (upd H p (.lst (cutV xs lo hi)))
/-! ### in, not in: flat items -/
def flatV : V → Bool
  | .non => true
  | .bl _ => true
  | .int _ => true
  | .str _ => true
  | _ => false
/-- == of flat values -/
def eqV : V → V → Bool
  | .non, .non => true
  | .bl a, .bl b => a == b
  | .bl a, .int b => (if a then 1 else 0) == b
  | .int a, .bl b => a == (if b then 1 else 0)
  | .int a, .int b => a == b
  | .str a, .str b => a == b
  | _, _ => false
/-- the items' answers, read off the values (a value's own answer does not lean on its token) -/
def eqU (x : V) (u : Value) : Bool := match u with
  | .none => eqV .non x
  | .bool b => eqV (.bl b) x
  | .int i _ => eqV (.int i) x
  | .str z _ => eqV (.str z) x
  | _ => false
def inV (x : V) (xs : List V) : Bool := xs.any fun y => eqV y x
/-- x in a list or tuple of flat items -/
def rIn (K : PySem.W.Frag) (neg : Bool) : R2 := fun x y H Q => ∃ p xs, y = .ref p ∧ (SqL K H p xs ∨ SqT K H p xs) ∧ flatV x = true ∧ xs.all flatV = true ∧ Q (.bl (if neg then !inV x xs else inV x xs)) H
/-! ### len, list(x), tuple(x) of any list or tuple that is read -/
theorem CallR.or {f : Value} {r r' : List V → Hp → VK → Prop} (h : CallR X f r) (h' : CallR X f r') : CallR X f (fun xs H Q => r xs H Q ∨ r' xs H Q) := by
  intro pins s σ H xs us Q I rs q
  rcases q with q | q
  · exact h pins s σ H xs us Q I rs q
  · exact h' pins s σ H xs us Q I rs q
/-! ### the call of a builtin's method: o.m(..) -/
/-- the value is of that builtin type -/
def tyV (K : PySem.W.Frag) (T : String) (x : V) (H : Hp) : Prop := match x with
  | .str _ => T = "str"
  | .int _ => T = "int"
  | .ref p => (T = "list" ∧ ∃ xs, SqL K H p xs) ∨ (T = "tuple" ∧ ∃ o, K.lookup p = some o ∧ o.cls = .type "tuple" ∧ o.dict = none) ∨
      (T = "dict" ∧ ((∃ kvs, H p = some (.dK kvs)) ∨ ∃ kvs, H p = some (.dT kvs))) ∨ (T = "set" ∧ ∃ S n, H p = some (.set S n))
  | _ => False
def tBM0 (K : PySem.W.Frag) (T : String) (r : V → List V → Hp → VK → Prop) (to : TE) : TE := fun σ H Q => to σ H fun x H1 => tyV K T x H1 ∧ r x [] H1 Q
def tBM (K : PySem.W.Frag) (T : String) (r : V → List V → Hp → VK → Prop) (to : TE) (t : TA) : TE := fun σ H Q => to σ H fun x H1 => tyV K T x H1 ∧ t σ H1 fun xs H2 => r x xs H2 Q
variable {o e : Expr} {es : List Expr} {to : TE} {t : TA} {name : Str} {apos cpos : Pos} {T id : String} {r : V → List V → Hp → VK → Prop}
/- xs.append(e), list.index on a module's tuple .. are MtR facts of 06m -/
end
end L2

namespace L2
open PySem PySem.Spec PyProof.Rows

def MtM (X : Cx) (id : String) (r : V → List V → Hp → VK → Prop) : Prop :=
  ∀ (pins : List (Addr × Obj)) (s : Shared) (σ : St) (H : Hp) (x : V) (xs : List V) (v : Value) (us : List Value) (Q : VK), Inv X pins σ H s → RelV x v → Vals xs us → r x xs H Q →
    wpAny (model X.prog X.w) X.A (call (.builtin id) (v :: us)) (EP X pins σ Q) X.xe s

/-! ### lists of values -/
theorem Vals.one : ∀ {x : V} {us : List Value}, Vals [x] us → ∃ u, us = [u] ∧ RelV x u
  | _, _, .cons r .nil => ⟨_, rfl, r⟩
theorem Vals.two : ∀ {x y : V} {us : List Value}, Vals [x, y] us → ∃ u v, us = [u, v] ∧ RelV x u ∧ RelV y v
  | _, _, _, .cons r (.cons q .nil) => ⟨_, _, rfl, r, q⟩
theorem Vals.zero : ∀ {us : List Value}, Vals [] us → us = []
  | _, .nil => rfl
theorem Vals.dropLast {xs : List V} {us : List Value} (h : Vals xs us) : Vals xs.dropLast us.dropLast := by
  induction h with
  | nil => exact .nil
  | cons r t ih =>
    cases t with
    | nil => exact .nil
    | cons q t' => exact .cons r ih
theorem Vals.eraseIdx : ∀ {xs : List V} {us : List Value} (i : Nat), Vals xs us → Vals (xs.eraseIdx i) (us.eraseIdx i)
  | _, _, _, .nil => .nil
  | _, _, 0, .cons _ t => t
  | _, _, i + 1, .cons r t => .cons r (Vals.eraseIdx i t)
theorem Vals.reverse {xs : List V} {us : List Value} (h : Vals xs us) : Vals xs.reverse us.reverse := by
  induction h with
  | nil => exact .nil
  | cons r t ih => rw [List.reverse_cons, List.reverse_cons]; exact Vals.append ih (.cons r .nil)
theorem Vals.rep {xs : List V} {us : List Value} (h : Vals xs us) : ∀ k : Nat, Vals (List.replicate k xs).flatten (List.replicate k us).flatten
  | 0 => .nil
  | k + 1 => by
    rw [List.replicate_succ, List.replicate_succ, List.flatten_cons, List.flatten_cons]
    exact Vals.append h (Vals.rep h k)
theorem foldl_rep (its : List Value) : ∀ (k : Nat) (acc : List Value),
    List.foldl (fun x1 x2 => x1 ++ x2) acc.toArray (List.replicate k its.toArray) = (acc ++ (List.replicate k its).flatten).toArray
  | 0, acc => by simp
  | k + 1, acc => by
    have e : acc.toArray ++ its.toArray = (acc ++ its).toArray := by simp
    have e2 : (acc ++ its) ++ (List.replicate k its).flatten = acc ++ (List.replicate (k + 1) its).flatten := by
      rw [List.replicate_succ, List.flatten_cons, List.append_assoc]
    rw [← e2, ← foldl_rep its k (acc ++ its), ← e, List.replicate_succ, List.foldl_cons]

section
variable {X : Cx} {pins : List (Addr × Obj)} {σ : St} {H : Hp} {s : Shared} {l b : Addr} {xs ys zs : List V}

/-! ### the two steps: a tracked list is rewritten, a new list is laid -/
theorem Inv.lnew {its : List Value} {t' : Nat} (I : Inv X pins σ H s) (hv : Vals ys its) (hz : ys.length ≤ sizeLine) :
    Inv X pins σ (upd H s.heap.objs.size (.lst ys)) { s with heap := s.heap.push { cls := .type "list", data := .seq its.toArray }, toks := t' } :=
  I.laid (fun _ _ q => Heap.get?_push_of_some _ q) (Nat.le_refl _) ⟨hz, its, 0, hv, Heap.get?_push_size _ rfl⟩
theorem Inv.fresh (I : Inv X pins σ H s) : H s.heap.objs.size = none := I.hok.fresh (Nat.le_refl _)
theorem Inv.lstM (I : Inv X pins σ H s) (hH : H l = some (.lst xs)) : xs.length ≤ sizeLine ∧ ∃ (its : List Value) (n : Nat), Vals xs its ∧ xs.length = its.length ∧ s.heap.get? l = some { cls := .type "list", data := .seq its.toArray n } := by
  obtain ⟨z, its, n, r, e⟩ := I.hok l _ hH
  exact ⟨z, its, n, r, r.length, e⟩

theorem notLongL {n : Nat} (h : n ≤ sizeLine) : Builtin.List.listTooLong n = false := by
  unfold Builtin.List.listTooLong
  exact decide_eq_false (by omega)
end

section
variable {X : Cx}

/-! ### methods -/
def rAppend : V → List V → Hp → VK → Prop := fun x vs H Q => ∃ l xs y, x = .ref l ∧ vs = [y] ∧ H l = some (.lst xs) ∧ xs.length < sizeLine ∧ Q .non (upd H l (.lst (xs ++ [y])))
def rExtend : V → List V → Hp → VK → Prop := fun x vs H Q => ∃ l b xs zs, x = .ref l ∧ vs = [.ref b] ∧ H l = some (.lst xs) ∧ H b = some (.lst zs) ∧ xs.length + zs.length ≤ sizeLine ∧ Q .non (upd H l (.lst (xs ++ zs)))
def rPop : V → List V → Hp → VK → Prop := fun x vs H Q => ∃ l xs y, x = .ref l ∧ vs = [] ∧ H l = some (.lst xs) ∧ xs[xs.length - 1]? = some y ∧ Q y (upd H l (.lst xs.dropLast))
def rPopAt : V → List V → Hp → VK → Prop := fun x vs H Q => ∃ l xs i k y, x = .ref l ∧ vs = [.int i] ∧ H l = some (.lst xs) ∧ -(2 ^ 63) ≤ i ∧ i < 2 ^ 63 ∧ seqIndex? i xs.length = some k ∧ xs[k]? = some y ∧ Q y (upd H l (.lst (xs.eraseIdx k)))
def rReverse : V → List V → Hp → VK → Prop := fun x vs H Q => ∃ l xs, x = .ref l ∧ vs = [] ∧ H l = some (.lst xs) ∧ Q .non (upd H l (.lst xs.reverse))
def rClear : V → List V → Hp → VK → Prop := fun x vs H Q => ∃ l xs, x = .ref l ∧ vs = [] ∧ H l = some (.lst xs) ∧ Q .non (upd H l (.lst []))
/-! ### list + list, list += list, list * int -/
def rCat : R2 := fun x y H Q => ∃ l b xs zs, x = .ref l ∧ y = .ref b ∧ H l = some (.lst xs) ∧ H b = some (.lst zs) ∧ xs.length + zs.length ≤ sizeLine ∧ ∀ p, H p = none → Q (.ref p) (upd H p (.lst (xs ++ zs)))
theorem op_cat : OpR X (binaryOp .Add) rCat := by
  intro pins s σ H x y v u Q I rx ry h
  obtain ⟨l, b, xs, zs, rfl, rfl, hH, hB, hz, q⟩ := h
  cases rx
  cases ry
  obtain ⟨z, its, n, r, hl, e⟩ := I.lstM hH
  obtain ⟨z2, its2, n2, r2, hl2, e2⟩ := I.lstM hB
  refine PySem.P.add_list e e2 ?_ (by rw [List.size_toArray, List.size_toArray]; omega)
  have ea : its.toArray ++ its2.toArray = (its ++ its2).toArray := by simp
  rw [ea]
  exact ⟨.ref _, _, I.lnew (t' := s.toks) (r.append r2) (by rw [List.length_append]; omega), rfl, q _ I.fresh⟩
/-- a list times an int (a negative one is nothing) -/
def rRep : R2 := fun x y H Q => ∃ l k xs, x = .ref l ∧ y = .int k ∧ H l = some (.lst xs) ∧ -(2 ^ 63) ≤ k ∧ k < 2 ^ 63 ∧ xs.length * k.toNat ≤ sizeLine ∧
  ∀ p, H p = none → Q (.ref p) (upd H p (.lst (List.replicate k.toNat xs).flatten))
theorem len_rep {α : Type} (xs : List α) (k : Nat) : (List.replicate k xs).flatten.length = k * xs.length := by
  induction k with
  | zero => simp
  | succ k ih => rw [List.replicate_succ, List.flatten_cons, List.length_append, ih, Nat.succ_mul, Nat.add_comm]
theorem op_rep : OpR X (binaryOp .Mult) rRep := by
  intro pins s σ H x y v u Q I rx ry h
  obtain ⟨l, k, xs, rfl, rfl, hH, h1, h2, hz, q⟩ := h
  cases rx
  obtain ⟨t, rfl⟩ := ry
  obtain ⟨z, its, n, r, hl, e⟩ := I.lstM hH
  have hlen : its.toArray.size * k.toNat ≤ sizeLine := by rw [List.size_toArray, ← hl]; exact hz
  have hcap : ¬ its.toArray.size * k.toNat > (2 ^ 63 - 1) / 8 := by
    have : (sizeLine : Nat) ≤ (2 ^ 63 - 1) / 8 := by decide
    omega
  have hfit : ¬ (!Builtin.List.listFitsIndex k) = true := by
    rw [fitsIndex_both h1 h2]
    exact Bool.false_ne_true
  have hlong : ¬ Builtin.List.listTooLong (its.toArray.size * k.toNat) = true := by
    rw [notLongL hlen]
    exact Bool.false_ne_true
  have hnew : List.foldl (fun x1 x2 => x1 ++ x2) #[] (List.replicate (if its.toArray.isEmpty = true then 0 else k.toNat) its.toArray) = (List.replicate k.toNat its).flatten.toArray := by
    have f0 : ∀ m : Nat, List.foldl (fun x1 x2 => x1 ++ x2) #[] (List.replicate m its.toArray) = (List.replicate m its).flatten.toArray := fun m => by
      have := foldl_rep its m []
      rw [List.nil_append] at this
      exact this
    rw [f0]
    cases its with
    | nil => simp
    | cons a r' => rw [if_neg (by simp)]
  refine wpAny_binaryOp_repeat_ref (T := "list") (U := "int") (by decide) ⟨_, e, rfl⟩ (fun s' => typeIs_int s' k t) noFill_list_mul F.fills_int_mul F.slot_int_rmul repeat_list F.slot_int_index.lookup
    (call_meets F.slot_int_rmul (typeIs_int s k t) F.entry_int_rmul (F.args_int_rmul_2 _ _) (int___rmul___int_list k t l its.toArray n)
      ⟨e, rfl, ⟨_, e, rfl⟩, call_meets F.slot_list_mul ⟨_, e, rfl⟩ F.entry_list_mul (F.args_list_mul_2 _ _) (AutoListH.list___mul___list_int_3 l its.toArray n k t hfit hcap hlong) ⟨e, ?_⟩⟩)
  rw [hnew]
  exact ⟨.ref _, _, I.lnew (t' := s.toks) (r.rep k.toNat) (by rw [len_rep, Nat.mul_comm]; exact hz), rfl, q _ I.fresh⟩

/-! ### del xs[i] -/
end

/-! ### xs[a:b] = ys -/
section
variable {prog : Program} {w : World} {A : Around} {E : Value → Shared → Prop} {s : Shared}
end

section
variable {X : Cx}
end
end L2

namespace Att
open PySem PySem.W PySem.Calls PyProof.Rows

/-! ### the script -/
theorem ints_of_wellAll {P : Params} {h : Heap} : ∀ (ns : List Int) (vs : List Value), WellAll P h vs (ns.map WData.int) → IntsAre vs ns := by
  intro ns
  induction ns with
  | nil =>
    intro vs w
    rw [List.map_nil] at w
    cases w
    exact .nil
  | cons n ns ih =>
    intro vs w
    rw [List.map_cons] at w
    cases w with
    | cons a b =>
      cases a
      exact .cons _ _ (ih _ b)

theorem script_of {l : OpenLaw} {n : Nat} (hn : l.most = some n) {P : Params} {h : Heap} {args : List WData} {vals : List Value}
    (hpre : l.row.toRowW.claim.pre args = true) (hwl : WellAll P h vals args) :
    ∃ a vs ns, vals = [Value.ref a] ∧ args = [WData.list (ns.map WData.int)] ∧ h.get? a = some { cls := .type "list", data := .seq vs.toArray } ∧ IntsAre vs ns ∧ ns.length ≤ n := by
  have hsh : WShape.hasAll [] args [.list .int] = true := (pre_splitW hpre).1
  have hc : l.pre.holds [] { args := args } = true := (pre_splitW hpre).2
  obtain ⟨d, r, rfl, h1, h2⟩ := hasAllW_cons hsh
  obtain rfl := hasAllW_nil h2
  obtain ⟨xs, rfl, h3⟩ := hasW_list h1
  obtain ⟨ns, rfl⟩ := items_int h3
  have hlen : ns.length ≤ n := by
    unfold OpenLaw.pre at hc
    have h4 : (WTm.not (.lt (.lit (.int (n : Int))) (.len (.arg 0)))).holds [] { args := [.list (ns.map .int)] } = true := by
      have h4 := (holds_andW hc).1
      rw [hn] at h4
      exact h4
    have h5 := condW_of h4 (w_not (w_lt w_lit (w_len_list (w_arg rfl))))
    rw [List.length_map] at h5
    refine Nat.le_of_not_lt fun q => ?_
    have q' : (n : Int) < ((ns.length : Nat) : Int) := by omega
    first
      | (rw [decide_eq_true q'] at h5; exact absurd h5 (by decide))
      | (simp at h5; omega)
  cases hwl with
  | cons w1 w2 =>
    cases w2
    cases w1 with
    | list ho hall => exact ⟨_, _, ns, rfl, rfl, ho, ints_of_wellAll ns _ hall, hlen⟩

theorem post_true (l : OpenLaw) (args : List WData) : l.row.toRowW.claim.post args (.bool true) args = true :=
  postW_of (r := l.row.toRowW) (X := (true == true))
    (show WShape.has [] (.bool true) .bool = true by first | rfl | decide | simp [WShape.has, WShape.arms, WShape.armsAll])
    (show (WTm.eq .res (.lit (.bool true))).value [] { args := args, res := some (.bool true), after := args } = some (.bool (true == true)) from w_eq_bool (w_res rfl) w_lit) rfl

/-! ### the attachment: holds_open's last premise (the goal 'hc' behind k_head) from a wpAny of the law's body -/
/-- the same from a codeAny of the CALL (for a layer whose function contracts speak of calls) -/
theorem attach_call {l : OpenLaw} {n : Nat} {q : Program} {loose : List Str} {XP : (Str → Option Value) → Heap → Prop} {YP : World → Heap → Prop} {d : DefRec}
    (hn : l.most = some n) (hdf : d.params.defaults = [])
    (call : ∀ (w : World) (s₀ s₁ : Shared) (mg mb : Str → Option Value) (fa : Addr) (o : Obj) (pm cd doc : Value) (a : Addr) (vs : List Value) (ns : List Int),
      Ground q loose [] XP w s₀ mg mb s₁.heap → YP w s₁.heap →
      s₁.heap.get? fa = some o → o.data = .func (docDef d.name d.params d.body d.scope pm cd doc) → s₁.heap.CodeRec cd d.name → mg d.name = some (.ref fa) →
      s₁.heap.get? a = some { cls := .type "list", data := .seq vs.toArray } → IntsAre vs ns → ns.length ≤ n → s₁.gens = #[] →
      codeAny (model l.prog w) callerA (.call (.ref fa) ⟨[.ref a], []⟩) (fun r s' => r = .ok (.ret (.bool true)) ∧ OldK s₁.heap s'.heap ∧ s'.os = s₁.os ∧ AllBare s'.gens) s₁) :
    WalkO q loose XP YP l.row.toRowW d [] (fun f vs => PySem.call f vs) := by
  intro w s₀ s₁ mg mb G Y fa o pm cd doc dV kV ho hd hcd hD hmg hg args vals as hpre hlay hrd hwl hlo
  obtain rfl : dV = .none := Dflts.none hD hdf
  obtain rfl : kV = .none := Dflts.noKw hD
  obtain ⟨a, vs, ns, rfl, rfl, hobj, hints, hlen⟩ := script_of hn hpre hwl
  refine enter_call (codeAny_mono (call w s₀ s₁ mg mb fa o pm cd doc a vs ns G Y ho (fd_plain hd) hcd hmg hobj hints hlen hg) fun r s' hq => ?_)
  obtain ⟨rfl, h2, h3, h4⟩ := hq
  exact ⟨.inl ⟨.bool true, .bool true, [], rfl, fun _ => rfl, .bool true, post_true l _, fun _ => ⟨List.Pairwise.nil, fun _ hm => (nomatch hm)⟩⟩, h2, h3, h4⟩

/-! ### rules over ANY heap (no ledger) from facts about the written part K: the library's own take a ledger (News) for what they write -/
section
variable {prog : Program} {w : World} {A : Around} {E : Value → Shared → Prop} {s : Shared} {K : Frag}

/-! the whole heap as the ledger: makes every rule that writes through a ledger a rule over any heap -/
def noObjs (h : Heap) : Heap := { h with objs := #[] }
def ledger (h : Heap) (L d : Addr) : List (Addr × Obj) := (List.range h.objs.size).filterMap fun a => if a = L ∨ a = d then none else (h.get? a).map fun o => (a, o)
end
end Att

namespace L2
open PySem PySem.Spec PyProof.Rows

theorem vals_ints : ∀ {vs : List Value} {ns : List Int}, IntsAre vs ns → Vals (ns.map V.int) vs
  | _, _, .nil => .nil
  | _, _, .cons n t h => .cons ⟨t, rfl⟩ (vals_ints h)

/-- nothing is tracked but the script, known to the object (or it is an object of the module) -/
def Only (H : Hp) : Prop := ∀ b, H b = none ∨ ∃ o xs, H b = some (.frz o (.lst xs))

/-- THE HEAD: the law's promise, at the heap behind the top. F, the promise of the law's def, may use that base is part of the heap (so K.In base, base.Ns mainGlobals mg stand in Mod) -/
theorem law_call {P : Program} {w : World} {K : PySem.W.Frag} {mg mb : Str → Option Value} {CX : CXT} {k : Nat} {fa a : Addr} {fd : FuncData} {x : Str} {sp : Sp} {s₁ : Shared} {vs : List Value} {ns : List Int}
    (KX : K.In s₁.heap) (hns : s₁.heap.Ns mainGlobals mg) (hb : s₁.heap.Ns builtinsNs mb) (hbb : ∀ x : Str, x ≠ "__name__" → mb x = bootBuiltins x) (hlim : s₁.heap.NoLimit) (hg : s₁.gens = #[])
    (ha : s₁.heap.get? a = some { cls := .type "list", data := .seq vs.toArray }) (hi : IntsAre vs ns) (hl : ns.length ≤ sizeLine) (hr : Room k callerA)
    (F : ∀ base : Heap, K.In base → base.Ns mainGlobals mg → FnOk P w K mg base CX k fa fd [x] sp) (hbind : ∀ (s : Shared) (u : Value), BindsTo s fd ⟨[u], []⟩ [(x, u)])
    (hsp : ∀ H : Hp, Only H → SqL K H a (ns.map V.int) → sp [.ref a] H (fun v _ => v = .bl true) fun _ _ _ => False)
    (hCX : ∀ H e s', CX [] H s₁ (fun _ _ _ => False) e s' → False) :
    codeAny (model P w) callerA (.call (.ref fa) ⟨[.ref a], []⟩) (fun r s' => r = .ok (.ret (.bool true)) ∧ OldK s₁.heap s'.heap ∧ s'.os = s₁.os ∧ AllBare s'.gens) s₁ := by
  have rv := vals_ints hi
  have lenV := hi.length
  -- from an abstract heap in which nothing but the script may be tracked
  have core : ∀ H : Hp, Only H → SqL K H a (ns.map V.int) → HOk P w H s₁.heap → (∀ b, H b ≠ none → b = a) → (H a ≠ none → K.lookup a = none) →
      codeAny (model P w) callerA (.call (.ref fa) ⟨[.ref a], []⟩) (fun r s' => r = .ok (.ret (.bool true)) ∧ OldK s₁.heap s'.heap ∧ s'.os = s₁.os ∧ AllBare s'.gens) s₁ := by
    intro H hO hS hok hA hK
    have base_of : ∀ {b : Addr} {o : Obj}, s₁.heap.get? b = some o → H b = none → (hidT s₁.heap H).get? b = some o := fun e n => hidT_get e n
    have noA : ∀ {b : Addr} {o : Obj} {es : Array DictEntry} {ep : Nat}, s₁.heap.get? b = some o → o.data = .dict es ep → H b = none := fun {b o es ep} e d => by
      cases q : H b with
      | none => rfl
      | some u =>
        have e' : b = a := hA b (by rw [q]; simp)
        subst e'
        rw [ha] at e; cases e
        have d' : Data.seq vs.toArray _ = Data.dict es ep := d
        cases d'
    have nsK : ∀ {b : Addr} {m : Str → Option Value}, s₁.heap.Ns b m → (hidT s₁.heap H).Ns b m := fun {b m} ⟨o, es, ep, e, d, r⟩ => ⟨o, es, ep, base_of e (noA e d), d, r⟩
    have hKb : K.In (hidT s₁.heap H) := fun b o e => base_of (KX b o e) (by
      cases q : H b with
      | none => rfl
      | some u =>
        have e' : b = a := hA b (by rw [q]; simp)
        subst e'
        rw [hK (by rw [q]; simp)] at e; cases e)
    have hM : Mod K mg (hidT s₁.heap H) := ⟨hKb, nsK hns, ⟨mb, nsK hb, hbb⟩, let ⟨mc, h1, h2⟩ := hlim; ⟨mc, nsK h1, h2⟩⟩
    have e0 : Env0 P w K mg (hidT s₁.heap H) callerA [] s₁ H := ⟨rfl, hM, fun b o e => of_hidT e, Nat.le_of_eq (hidT_size _ _), trivial, fun b hb => absurd (show b ∈ ([] : List Addr) from hb) (by simp), hok, .of_eq hg⟩
    refine codeAny_mono ((F _ hKb (nsK hns)).run callerA [] s₁ H ⟨[.ref a], []⟩ [.ref a] [.ref a] _ _ hr e0 (hbind s₁ (.ref a)) (.cons rfl .nil) (hsp H hO hS)) fun r s' h => ?_
    cases r with
    | error e => exact (hCX H e s' h).elim
    | ok fl =>
      cases fl with
      | next => exact False.elim h
      | brk => exact False.elim h
      | cont => exact False.elim h
      | ret u =>
        obtain ⟨v, H', os, bare, un, hok', r', q⟩ := h
        have q' : v = .bl true := q
        subst q'
        obtain rfl : u = Value.bool true := r'
        refine ⟨rfl, OldK.of_keep fun b o e => ?_, os, bare⟩
        cases q : H b with
        | none => exact un.keep b o e q (by intro z; exact absurd (show b ∈ ([] : List Addr) from z) (by simp)) (by simp)
        | some u =>
          rcases hO b with z | ⟨ob, xs, z⟩
          · rw [q] at z; cases z
          · have z2 := un.frzs b ob _ z
            obtain ⟨e1, _⟩ := hok b _ z
            obtain ⟨e2, _⟩ := hok' b _ z2
            rw [e] at e1; cases e1
            exact e2
  cases hk : K.lookup a with
  | some o =>
    -- the script is one of the module's own objects
    have e := KX a o hk
    rw [ha] at e
    cases e
    refine core (fun _ => none) (fun _ => .inl rfl) (.inr ⟨_, vs.toArray, _, hk, rfl, rfl, rfl, by rw [List.size_toArray, lenV]; exact hl, by simpa using rv⟩) (fun b u z => by have z' : (none : Option HO) = some u := z; cases z') (fun b z => absurd rfl z) fun z => absurd rfl z
  | none =>
    refine core (fun b => if b = a then some (.frz { cls := .type "list", data := .seq vs.toArray } (.lst (ns.map V.int))) else none) (fun b => ?_) (.inl (.inr ⟨{ cls := .type "list", data := .seq vs.toArray }, if_pos rfl⟩)) (fun b u z => ?_) (fun b z => ?_) fun _ => hk
    · by_cases hb : b = a
      · exact .inr ⟨_, _, if_pos hb⟩
      · exact .inl (if_neg hb)
    · by_cases hb : b = a
      · have z' := (if_pos hb).symm.trans z
        cases z'
        subst hb
        exact ⟨ha, by rw [List.length_map]; exact hl, vs, _, rv, ha⟩
      · have z' := (if_neg hb).symm.trans z
        cases z'
    · by_cases hb : b = a
      · exact hb
      · exact absurd (if_neg hb) z
end L2

namespace L2
open PySem PySem.Spec PyProof.Rows

abbrev KOf {K : PySem.W.Frag} {h : Heap} (_ : K.In h) : PySem.W.Frag := K

/-- the goal that k_head leaves (case hc), from the law's promise. F gives the function object fd (K's own) once, then the promise over every base -/
theorem walk_of {l : PySem.W.OpenLaw} {n k : Nat} {q : Program} {loose : List Str} {XP : (Str → Option Value) → Heap → Prop} {YP : World → Heap → Prop} {d : DefRec} {K : Params → PySem.W.Frag} {CX : World → CXT} {sp : World → Sp} {x : Str}
    (hn : l.most = some n) (hn2 : n ≤ sizeLine) (hdf : d.params.defaults = []) (hr : Room k callerA)
    (hY : ∀ (w : World) (h : Heap), YP w h → (K w.params).In h)
    (F : ∀ (w : World) (mg : Str → Option Value) (fa : Addr) (h : Heap), (K w.params).In h → h.Ns mainGlobals mg → mg d.name = some (.ref fa) →
      ∃ fd : FuncData, (∀ (s : Shared) (u : Value), BindsTo s fd ⟨[u], []⟩ [(x, u)]) ∧
        ∀ base : Heap, (K w.params).In base → base.Ns mainGlobals mg → FnOk l.prog w (K w.params) mg base (CX w) k fa fd [x] (sp w))
    (hsp : ∀ (w : World) (H : Hp) (a : Addr) (ns : List Int), ns.length ≤ n → Only H → SqL (K w.params) H a (ns.map V.int) → sp w [.ref a] H (fun v _ => v = .bl true) fun _ _ _ => False)
    (hCX : ∀ (w : World) (H : Hp) (s : Shared) (e : Value) (s' : Shared), CX w [] H s (fun _ _ _ => False) e s' → False) :
    PySem.W.WalkO q loose XP YP l.row.toRowW d [] (fun f vs => PySem.call f vs) := by
  refine Att.attach_call hn hdf fun w s₀ s₁ mg mb fa o pm cd doc a vs ns G Y ho hd hcd hmg hobj hints hlen hg => ?_
  have KX := hY w _ Y
  obtain ⟨fd, hb, hF⟩ := F w mg fa _ KX G.T.g hmg
  exact law_call KX G.T.g G.T.b G.T.builtins G.T.nolimit hg hobj hints (Nat.le_trans hlen hn2) hr hF hb (fun H hO hS => hsp w H a ns hlen hO hS) fun H e s' => hCX w H s₁ e s'
end L2


/-! SHORT WORDS over the layer: a def of the text, its body, what a loop and a test want. -/
namespace L2
open PySem PySem.Spec PyProof.Rows

/-! ### the text by places -/
/-- the j-th statement of a class's body -/
def inClass (s : Stmt) (j : Nat) : Stmt := match s with
  | .ClassDef _ _ _ body _ _ _ _ _ _ _ => body.getD j (.Pass ⟨0, 0, 0, 0⟩)
  | _ => .Pass ⟨0, 0, 0, 0⟩
def defArgs (s : Stmt) : Arguments := match s with
  | .FunctionDef _ a _ _ _ _ _ _ _ _ => a
  | _ => { posonlyargs := [], args := [], vararg := none, kwonlyargs := [], kw_defaults := [], kwarg := none, defaults := [] }
def defBody (s : Stmt) : List Stmt := match s with
  | .FunctionDef _ _ b _ _ _ _ _ _ _ => b
  | _ => []
def defScope (s : Stmt) : Scope := match s with
  | .FunctionDef _ _ _ _ _ _ sc _ _ _ => sc
  | _ => { kind := .function, names := [], isGenerator := false, isCoroutine := false }

/-! ### no exception leaves a def -/
abbrev CX0 : CXT := fun _ _ _ _ _ _ => False
abbrev E0 : XK := fun _ _ _ => False
theorem pass0 {X : Cx} : Passes CX0 X E0 := fun _ _ _ _ _ _ _ h => h.elim

/-! ### a def (or method) of the text as it stands behind the top -/
structure Fun (K : PySem.W.Frag) (x qual : Str) (st : Stmt) (f : Addr) (fd : FuncData) : Prop where
  ex : ∃ (oc : Value) (od : Option Addr) (kV doc pm : Value) (an : Option Addr) (cdv ct : Value) (osl : Array (Option Value)),
    fd = PySem.W.fnOf x qual (defArgs st) (defBody st) (defScope st) .none kV doc pm an cdv ct ∧ K.lookup f = some ⟨oc, od, .func fd, osl⟩ ∧ PySem.W.codeIn K cdv qual = true
  kp : PySem.W.keepIn K (.ref f) = true
section
variable {P : Program} {w : World} {K : PySem.W.Frag} {mg : Str → Option Value} {base : Heap}
/-- THE RULE for a def: its body as a term of rules, and the reading of that term -/
theorem Fun.ok {x qual : Str} {st : Stmt} {f : Addr} {fd : FuncData} {N ps : List Str} {k : Nat} {sp : Sp} (F : Fun K x qual st f fd) (S : FnScope N ps (defScope st)) (len : ∀ vs H Q E, sp vs H Q E → vs.length = ps.length)
    (hbody : ∀ (cdv : Value) (A : Around) (outer : List Env) (s : Shared) (H : Hp) (vs : List V) (Q : VK) (E : XK), Room k (A.deeper (envOfC qual (defScope st) s.heap.objs.size f cdv)) → sp vs H Q E →
      ∃ t, PSs (cxOf CX0 P w K mg base N qual (defScope st) f cdv A outer s H E).nox (defBody st) t ∧ t { nx := fun _ H' => Q .non H', rt := Q } (start N vs) H) : FnOk P w K mg base CX0 (k + 1) f fd ps sp := by
  obtain ⟨oc, od, kV, doc, pm, an, cdv, ct, osl, rfl, lk, hcd⟩ := F.ex
  refine fn_of lk hcd S len fun A outer s H vs Q E hr hsp => ?_
  obtain ⟨t, h, q⟩ := hbody cdv A outer s H vs Q E hr hsp
  exact ⟨t, h.nox, q⟩
/-- how its arguments bind (no defaults): h is «fun _ _ _ _ _ _ us hl => match us, hl with | [_, _], _ => rfl», one _ a parameter -/
theorem Fun.binds {x qual : Str} {st : Stmt} {f : Addr} {fd : FuncData} {ps : List Str} (F : Fun K x qual st f fd)
    (h : ∀ (kV doc pm : Value) (an : Option Addr) (cdv ct : Value) (us : List Value), us.length = ps.length → bindArgs (PySem.W.fnOf x qual (defArgs st) (defBody st) (defScope st) .none kV doc pm an cdv ct) ⟨us, []⟩ = pure (ps.zip us)) : Binds K fd ps [] := by
  obtain ⟨oc, od, kV, doc, pm, an, cdv, ct, osl, rfl, lk, hcd⟩ := F.ex
  exact .all (h kV doc pm an cdv ct)
theorem fun_mk {x qual : Str} {st : Stmt} {f : Addr} {oc : Value} {od an : Option Addr} {osl : Array (Option Value)} {kV doc pm cdv ct : Value} (l : K.lookup f = some ⟨oc, od, .func (PySem.W.fnOf x qual (defArgs st) (defBody st) (defScope st) .none kV doc pm an cdv ct), osl⟩)
    (c : PySem.W.codeIn K cdv qual = true) (k : PySem.W.keepIn K (.ref f) = true) : Fun K x qual st f (PySem.W.fnOf x qual (defArgs st) (defBody st) (defScope st) .none kV doc pm an cdv ct) := ⟨⟨oc, od, kV, doc, pm, an, cdv, ct, osl, rfl, l, c⟩, k⟩
end
/-! ### expressions in short: the name that stands in the i-th slot -/
section
variable {X : Cx}
theorem pv (i : Nat) {x : Str} {pos : Pos} (hN : X.N[i]? = some x := by rfl) (hv : Vis X.env.scope x := by first | exact Or.inl rfl | exact Or.inr (Or.inl rfl) | exact Or.inr (Or.inr rfl)) (hd : (x == ("__debug__" : Str)) = false := by decide)
    (hcd : (x == ("__classdict__" : Str)) = false := by decide) : PE X (.Name x pos) (tVar i) := pe_var hN hv hd hcd
end

/-! ### tests -/
theorem iteF {A B : Prop} (h : B) : if false = true then A else B := by
  rw [if_neg Bool.false_ne_true]
  exact h
theorem iteT {A B : Prop} (h : A) : if true = true then A else B := by
  rw [if_pos rfl]
  exact h
theorem ite2 {c A B : Prop} [Decidable c] (h1 : c → A) (h2 : ¬ c → B) : if c then A else B := by
  by_cases h : c
  · rw [if_pos h]
    exact h1 h
  · rw [if_neg h]
    exact h2 h
/-! ### heaps -/
/-- all that was tracked is as it was -/
def Same (H H' : Hp) : Prop := ∀ b o, H b = some o → H' b = some o
theorem Same.refl (H : Hp) : Same H H := fun _ _ h => h
theorem Same.trans {H H1 H2 : Hp} (a : Same H H1) (b : Same H1 H2) : Same H H2 := fun c o h => b c o (a c o h)
theorem Same.free {H H' : Hp} (e : Same H H') {l : Addr} (h : H' l = Option.none) : H l = Option.none := by
  cases q : H l with
  | none => rfl
  | some o =>
    rw [e l o q] at h
    cases h
theorem Same.seq {K : PySem.W.Frag} {H H' : Hp} {a : Addr} {xs : List V} (e : Same H H') (h : SqL K H a xs) : SqL K H' a xs := by
  rcases h with (h | ⟨o, h⟩) | h
  · exact .inl (.inl (e _ _ h))
  · exact .inl (.inr ⟨o, e _ _ h⟩)
  · exact .inr h

end L2

set_option Elab.async false
set_option linter.all false
set_option maxRecDepth 100000
namespace L2
open PySem PySem.Spec PyProof.Rows

/-! ### lists of pairs as tables -/
section
variable {κ : Type} [DecidableEq κ]
def valV (kvs : List (κ × V)) (k : κ) : Option V := (kvs.find? fun kv => decide (kv.1 = k)).map (·.2)
/-- in its place, or at the end -/
def putK (kvs : List (κ × V)) (k : κ) (v : V) : List (κ × V) :=
  if (kvs.any fun kv => decide (kv.1 = k)) = true then kvs.map (fun kv => if kv.1 = k then (kv.1, v) else kv) else kvs ++ [(k, v)]
def dropK (kvs : List (κ × V)) (k : κ) : List (κ × V) := kvs.filter fun kv => decide (kv.1 ≠ k)

theorem valV_pos {p : κ × V} {r : List (κ × V)} {k : κ} (e : p.1 = k) : valV (p :: r) k = some p.2 := by simp [valV, List.find?_cons, e]
theorem valV_neg {p : κ × V} {r : List (κ × V)} {k : κ} (e : ¬ p.1 = k) : valV (p :: r) k = valV r k := by simp [valV, List.find?_cons, e]
theorem valV_any (k : κ) : ∀ kvs : List (κ × V), (kvs.any fun kv => decide (kv.1 = k)) = (valV kvs k).isSome
  | [] => rfl
  | p :: r => by
    rw [List.any_cons]
    by_cases e : p.1 = k
    · simp only [valV_pos e, decide_eq_true e, Bool.true_or, Option.isSome_some]
    · rw [valV_neg e, decide_eq_false e, Bool.false_or]; exact valV_any k r
theorem RelO.isSome_eq {o : Option V} {u : Option Value} (r : RelO o u) : o.isSome = u.isSome := by
  cases o with
  | none => cases u with
    | none => rfl
    | some _ => exact (show False from r).elim
  | some _ => cases u with
    | none => exact (show False from r).elim
    | some _ => rfl
theorem RelO.getD {o : Option V} {u : Option Value} {d : V} {d' : Value} (r : RelO o u) (rd : RelV d d') : RelV (o.getD d) (u.getD d') := by
  cases o with
  | none => cases u with
    | none => exact rd
    | some _ => exact (show False from r).elim
  | some _ => cases u with
    | none => exact (show False from r).elim
    | some _ => exact r

/-- raw tables of the same keys -/
theorem KV.val {kvs : List (κ × V)} {vs : List (κ × Value)} (r : KV kvs vs) (k : κ) : RelO (valV kvs k) (valueAt vs k) := by
  unfold KV at r
  induction r with
  | nil => exact True.intro
  | @cons p q ps qs h t ih =>
    obtain ⟨h1, h2⟩ := h
    by_cases e : p.1 = k
    · have e' : q.1 = k := h1.symm.trans e
      have b : valueAt (q :: qs) k = some q.2 := by simp [valueAt, List.find?_cons, e']
      rw [valV_pos e, b]; exact h2
    · have e' : ¬ q.1 = k := fun z => e (h1.trans z)
      have b : valueAt (q :: qs) k = valueAt qs k := by simp [valueAt, List.find?_cons, e']
      rw [valV_neg e, b]; exact ih
theorem KV.any {kvs : List (κ × V)} {vs : List (κ × Value)} (r : KV kvs vs) (k : κ) : (kvs.any fun kv => decide (kv.1 = k)) = vs.any fun kv => decide (kv.1 = k) := by
  unfold KV at r
  induction r with
  | nil => rfl
  | cons h t ih => rw [List.any_cons, List.any_cons, ih, h.1]
theorem KV.repl {kvs : List (κ × V)} {vs : List (κ × Value)} (r : KV kvs vs) (k : κ) {y : V} {u : Value} (ry : RelV y u) :
    KV (kvs.map fun kv => if kv.1 = k then (kv.1, y) else kv) (vs.map fun kv => if kv.1 = k then (kv.1, u) else kv) := by
  unfold KV at r ⊢
  induction r with
  | nil => exact .nil
  | @cons p q ps qs h t ih =>
    rw [List.map_cons, List.map_cons]
    refine .cons ?_ ih
    obtain ⟨h1, h2⟩ := h
    by_cases e : p.1 = k
    · rw [if_pos e, if_pos (h1.symm.trans e)]; exact ⟨h1, ry⟩
    · rw [if_neg e, if_neg (fun z => e (h1.trans z))]; exact ⟨h1, h2⟩
theorem KV.put {kvs : List (κ × V)} {vs : List (κ × Value)} (r : KV kvs vs) (k : κ) {y : V} {u : Value} (ry : RelV y u) : KV (putK kvs k y) (stored vs k u) := by
  unfold putK stored
  rw [r.any k]
  by_cases e : (vs.any fun kv => decide (kv.1 = k)) = true
  · rw [if_pos e, if_pos e]; exact r.repl k ry
  · rw [if_neg e, if_neg e]; exact Paired.snoc r ⟨rfl, ry⟩
theorem KV.drop {kvs : List (κ × V)} {vs : List (κ × Value)} (r : KV kvs vs) (k : κ) : KV (dropK kvs k) (without vs k) := by
  unfold KV at r ⊢
  unfold dropK without
  induction r with
  | nil => exact .nil
  | @cons p q ps qs h t ih =>
    obtain ⟨h1, h2⟩ := h
    rw [List.filter_cons, List.filter_cons]
    by_cases e : p.1 = k
    · have a : ¬ decide (p.1 ≠ k) = true := by simp [e]
      have b : ¬ decide (q.1 ≠ k) = true := by simp [h1.symm.trans e]
      rw [if_neg a, if_neg b]; exact ih
    · have e' : ¬ q.1 = k := fun z => e (h1.trans z)
      have a : decide (p.1 ≠ k) = true := by simp [e]
      have b : decide (q.1 ≠ k) = true := by simp [e']
      rw [if_pos a, if_pos b]; exact .cons ⟨h1, h2⟩ ih
theorem KV.keys {kvs : List (κ × V)} {vs : List (κ × Value)} (r : KV kvs vs) : kvs.map (·.1) = vs.map (·.1) := by
  unfold KV at r
  induction r with
  | nil => rfl
  | cons h t ih => rw [List.map_cons, List.map_cons, ih, h.1]
theorem KV.length {kvs : List (κ × V)} {vs : List (κ × Value)} (r : KV kvs vs) : kvs.length = vs.length := Paired.length r
end


/-! ### a tracked dict, its keys ints and texts or tuples of these -/
/-- raw entries of a dict with tuple keys -/
abbrev KT (H : Hp) : List (List Key × V) → List (List Key × Addr × Value) → Prop := Paired fun p q => p.1 = q.1 ∧ H q.2.1 = some (.tup (p.1.map kV)) ∧ RelV p.2 q.2.2
theorem KT.val {H : Hp} {kvs : List (List Key × V)} {xs : List (List Key × Addr × Value)} (r : KT H kvs xs) (k : List Key) : RelO (valV kvs k) ((atKey xs k).map (·.2)) := by
  induction r with
  | nil => exact True.intro
  | @cons p q ps qs h t ih =>
    obtain ⟨h1, _, h2⟩ := h
    by_cases e : p.1 = k
    · have e' : q.1 = k := h1.symm.trans e
      have b : atKey (q :: qs) k = some q.2 := by simp [atKey, List.find?_cons, e']
      rw [valV_pos e, b]; exact h2
    · have e' : ¬ q.1 = k := fun z => e (h1.trans z)
      have b : atKey (q :: qs) k = atKey qs k := by simp [atKey, List.find?_cons, e']
      rw [valV_neg e, b]; exact ih
theorem KT.repl {H : Hp} {kvs : List (List Key × V)} {xs : List (List Key × Addr × Value)} (r : KT H kvs xs) (k : List Key) {y : V} {u : Value} (ry : RelV y u) :
    KT H (kvs.map fun kv => if kv.1 = k then (kv.1, y) else kv) (xs.map (putAt k u)) := by
  induction r with
  | nil => exact .nil
  | @cons p q ps qs h t ih =>
    rw [List.map_cons, List.map_cons]
    refine .cons ?_ ih
    obtain ⟨h1, h2, h3⟩ := h
    unfold putAt
    by_cases e : p.1 = k
    · rw [if_pos e, if_pos (h1.symm.trans e)]; exact ⟨h1, h2, ry⟩
    · rw [if_neg e, if_neg (fun z => e (h1.trans z))]; exact ⟨h1, h2, h3⟩
theorem KT.put {H : Hp} {kvs : List (List Key × V)} {xs : List (List Key × Addr × Value)} (r : KT H kvs xs) (k : List Key) {b : Addr} {y : V} {u : Value} (hb : H b = some (.tup (k.map kV))) (ry : RelV y u) :
    KT H (putK kvs k y) (storedH xs k b u) := by
  have e : (kvs.any fun kv => decide (kv.1 = k)) = (atKey xs k).isSome := by
    rw [valV_any, (r.val k).isSome_eq, Option.isSome_map]
  unfold putK storedH
  rw [e]
  by_cases q : (atKey xs k).isSome = true
  · rw [if_pos q, if_pos q]; exact r.repl k ry
  · rw [if_neg q, if_neg q]; exact Paired.snoc r ⟨rfl, hb, ry⟩
theorem KT.keeps {H H' : Hp} {kvs : List (List Key × V)} {xs : List (List Key × Addr × Value)} (r : KT H kvs xs) (ht : ∀ b ys, H b = some (.tup ys) → H' b = some (.tup ys)) : KT H' kvs xs :=
  Paired.mapP r fun _ _ z => ⟨z.1, ht _ _ z.2.1, z.2.2⟩

section
variable {P : Program} {w : World} {H : Hp} {h : Heap} {a : Addr}
end

/-- what the dict at a holds at the key y -/
def DGet (H : Hp) (a : Addr) (y : V) (r : Option V) : Prop :=
  (∃ kvs k, Rd H a (.dK kvs) ∧ y = kV k ∧ r = valV kvs k) ∨ ∃ kvs k b, Rd H a (.dT kvs) ∧ y = .ref b ∧ H b = some (.tup (k.map kV)) ∧ r = valV kvs k
/-- the heap behind a[y] = v -/
def DPut (H : Hp) (a : Addr) (y v : V) (H' : Hp) : Prop :=
  (∃ kvs k, H a = some (.dK kvs) ∧ y = kV k ∧ kvs.length < sizeLine ∧ H' = upd H a (.dK (putK kvs k v))) ∨
  ∃ kvs k b, H a = some (.dT kvs) ∧ y = .ref b ∧ H b = some (.tup (k.map kV)) ∧ kvs.length < sizeLine ∧ H' = upd H a (.dT (putK kvs k v))
theorem DGet.k {H : Hp} {a : Addr} {kvs : List (Key × V)} {k : Key} (e : H a = some (.dK kvs)) : DGet H a (kV k) (valV kvs k) := .inl ⟨kvs, k, .inl e, rfl, rfl⟩
theorem DGet.t {H : Hp} {a b : Addr} {kvs : List (List Key × V)} {k : List Key} (e : H a = some (.dT kvs)) (eb : H b = some (.tup (k.map kV))) : DGet H a (.ref b) (valV kvs k) := .inr ⟨kvs, k, b, .inl e, rfl, eb, rfl⟩
theorem DPut.k {H : Hp} {a : Addr} {kvs : List (Key × V)} {k : Key} {v : V} (e : H a = some (.dK kvs)) (hl : kvs.length < sizeLine) : DPut H a (kV k) v (upd H a (.dK (putK kvs k v))) := .inl ⟨kvs, k, e, rfl, hl, rfl⟩
theorem DPut.t {H : Hp} {a b : Addr} {kvs : List (List Key × V)} {k : List Key} {v : V} (e : H a = some (.dT kvs)) (eb : H b = some (.tup (k.map kV))) (hl : kvs.length < sizeLine) :
    DPut H a (.ref b) v (upd H a (.dT (putK kvs k v))) := .inr ⟨kvs, k, b, e, rfl, eb, hl, rfl⟩


section
variable {X : Cx} {pins : List (Addr × Obj)} {σ : St} {H : Hp} {s : Shared} {a : Addr} {y v : V} {u r : Value} {o : Option V} {A : Around} {E : Value → Shared → Prop}

end

section
variable {X : Cx} {pins : List (Addr × Obj)} {σ : St} {H : Hp} {s : Shared} {a : Addr} {kvs : List (Key × V)} {k : Key} {u : Value} {A : Around} {E : Value → Shared → Prop}
end


/-! ### readings and rules -/
/-- the element of a subscription, not a slice -/
def NoSl (i : Expr) : Prop := ∀ ov iv, subscripted i false ov iv = operate [ov, iv] (getItem ov iv)
/-- d[y] -/
def tDGet (td ty : TE) : TE := fun σ H Q => td σ H fun x H1 => ty σ H1 fun y H2 => ∃ a v, x = .ref a ∧ DGet H2 a y (some v) ∧ Q v H2
/-- y in d, y not in d -/
def tDIn (ty td : TE) : TE := fun σ H Q => ty σ H fun y H1 => td σ H1 fun x H2 => ∃ a o, x = .ref a ∧ DGet H2 a y o ∧ Q (.bl o.isSome) H2
def tDNotIn (ty td : TE) : TE := fun σ H Q => ty σ H fun y H1 => td σ H1 fun x H2 => ∃ a o, x = .ref a ∧ DGet H2 a y o ∧ Q (.bl (!o.isSome)) H2
/-- d[y] = v -/
def sDPut (td ty tv : TE) : TS := fun D σ H => tv σ H fun v H1 => td σ H1 fun x H2 => ty σ H2 fun y H3 => ∃ a H4, x = .ref a ∧ DPut H3 a y v H4 ∧ D.nx σ H4
/-- d[y] op= v -/
def sDAug (td ty tv : TE) (rd : V → V → Hp → VK → Prop) : TS := fun D σ H => td σ H fun x H1 => ty σ H1 fun y H2 => ∃ a v, x = .ref a ∧ DGet H2 a y (some v) ∧
  tv σ H2 fun y2 H3 => rd v y2 H3 fun z H4 => ∃ H5, DPut H4 a y z H5 ∧ D.nx σ H5
/-- del d[y] -/
def sDDel (td ty : TE) : TS := fun D σ H => td σ H fun x H1 => ty σ H1 fun y H2 => ∃ a kvs k, x = .ref a ∧ H2 a = some (.dK kvs) ∧ y = kV k ∧ (valV kvs k).isSome = true ∧ D.nx σ (upd H2 a (.dK (dropK kvs k)))

section
variable {X : Cx} {o i e value : Expr} {pos pos' tpos : Pos} {td ty tv : TE}
end


/-! ### displays -/
/-- {}, to be a dict of the kind that is wanted -/
def tDNewK : TE := fun _ H Q => ∀ p, H p = none → Q (.ref p) (upd H p (.dK []))
def tDNewT : TE := fun _ H Q => ∀ p, H p = none → Q (.ref p) (upd H p (.dT []))
section
variable {X : Cx} {pos : Pos}
end

/-- the pairs of a display, from the left -/
def tPairs : List (TE × TE) → St → Hp → (List (V × V) → Hp → Prop) → Prop
  | [], _, H, Q => Q [] H
  | (tk, tv) :: r, σ, H, Q => tk σ H fun x H1 => tv σ H1 fun y H2 => tPairs r σ H2 fun ps H3 => Q ((x, y) :: ps) H3
abbrev VV : List (V × V) → List (Value × Value) → Prop := Paired fun p q => RelV p.1 q.1 ∧ RelV p.2 q.2
def PPs (X : Cx) (pos : Pos) (keys : List (Option Expr)) (values : List Expr) (trs : List (TE × TE)) : Prop :=
  ∀ (pins : List (Addr × Obj)) (s : Shared) (σ : St) (H : Hp) (Q : List (V × V) → Hp → Prop), Inv X pins σ H s → tPairs trs σ H Q →
    wpAny (model X.prog X.w) X.A (evalPairs (pairTrees keys values X.env pos)) (fun vs s' => ∃ ps H', Inv X pins σ H' s' ∧ VV ps vs ∧ Q ps H') X.xe s
def mergeK (kvs more : List (Key × V)) : List (Key × V) := more.foldl (fun acc kv => putK acc kv.1 kv.2) kvs
/-- {k: v, ..} with keys ints and texts; the new dict stands empty while the pairs are made -/
def tDisp (trs : List (TE × TE)) : TE := fun σ H Q => ∀ p, H p = none → tPairs trs σ (upd H p (.dK [])) fun ps H2 => H2 p = some (.dK []) ∧ ∃ kvs : List (Key × V), ps = kvs.map (fun kv => (kV kv.1, kv.2)) ∧ kvs.length ≤ 15 ∧ Q (.ref p) (upd H2 p (.dK (mergeK [] kvs)))
/-! ### methods -/
/-- a method call o.m(e) of a built-in, with one argument: what must be seen of the text -/
structure M1 (X : Cx) (o : Expr) (m : Str) (apos : Pos) (e : Expr) (cpos : Pos) : Prop where
  base : attributeBase o m X.env (eval o X.env) = eval o X.env
  few : ((backTo cpos (starEach [e] X.env)).all (fun x => !x.1) && (backToKw cpos (keywordEach [] X.env)).all (fun x => x.1.isSome)
    && decide (([e] : List Expr).length + ([] : List Keyword).length + (if ([] : List Keyword).isEmpty then 0 else 1) < 30)) = true
  line : (apos.endLine == cpos.line) = true
  trees : backTo cpos (starEach [e] X.env) = [(false, eval e X.env)]
structure M2 (X : Cx) (o : Expr) (m : Str) (apos : Pos) (e f : Expr) (cpos : Pos) : Prop where
  base : attributeBase o m X.env (eval o X.env) = eval o X.env
  few : ((backTo cpos (starEach [e, f] X.env)).all (fun x => !x.1) && (backToKw cpos (keywordEach [] X.env)).all (fun x => x.1.isSome)
    && decide (([e, f] : List Expr).length + ([] : List Keyword).length + (if ([] : List Keyword).isEmpty then 0 else 1) < 30)) = true
  line : (apos.endLine == cpos.line) = true
  trees : backTo cpos (starEach [e, f] X.env) = [(false, eval e X.env), (false, eval f X.env)]

/-- a is a dict, whatever its keys -/
def IsD (H : Hp) (a : Addr) : Prop := (∃ kvs, Rd H a (.dK kvs)) ∨ ∃ kvs, Rd H a (.dT kvs)
section
variable {X : Cx} {pins : List (Addr × Obj)} {σ : St} {H : Hp} {s : Shared} {a : Addr} {y d : V} {u r : Value} {o : Option V} {A : Around} {E : Value → Shared → Prop}
end

def tDGet1 (td ty : TE) : TE := fun σ H Q => td σ H fun x H1 => ∃ a, x = .ref a ∧ IsD H1 a ∧ ty σ H1 fun y H2 => ∃ o, DGet H2 a y o ∧ Q (o.getD .non) H2
def tDGet2 (td ty tx : TE) : TE := fun σ H Q => td σ H fun x H1 => ∃ a, x = .ref a ∧ IsD H1 a ∧ ty σ H1 fun y H2 => tx σ H2 fun z H3 => ∃ o, DGet H3 a y o ∧ Q (o.getD z) H3
/-- d.pop(k): there; d.pop(k, x): there or not -/
def tDPop1 (td ty : TE) : TE := fun σ H Q => td σ H fun x H1 => ∃ a, x = .ref a ∧ IsD H1 a ∧ ty σ H1 fun y H2 => ∃ kvs k v, H2 a = some (.dK kvs) ∧ y = kV k ∧ valV kvs k = some v ∧ Q v (upd H2 a (.dK (dropK kvs k)))
def tDPop2 (td ty tx : TE) : TE := fun σ H Q => td σ H fun x H1 => ∃ a, x = .ref a ∧ IsD H1 a ∧ ty σ H1 fun y H2 => tx σ H2 fun z H3 => ∃ kvs k, H3 a = some (.dK kvs) ∧ y = kV k ∧
  (∀ v, valV kvs k = some v → Q v (upd H3 a (.dK (dropK kvs k)))) ∧ (valV kvs k = none → Q z H3)
section
variable {X : Cx} {o e f : Expr} {apos cpos : Pos} {td ty tx : TE}
end

/-! ### dict(d): a copy -/
section
variable {X : Cx} {pins : List (Addr × Obj)} {σ : St} {H : Hp} {s : Shared} {a : Addr} {kvs : List (Key × V)} {A : Around} {E : Value → Shared → Prop}
end


section
variable {X : Cx} {pins : List (Addr × Obj)} {σ : St} {H : Hp} {s : Shared} {a : Addr} {y : V} {u : Value} {A : Around} {E : Value → Shared → Prop}
end
end L2


set_option Elab.async false
set_option linter.all false
set_option maxRecDepth 100000
set_option maxHeartbeats 4000000
namespace L2
open PySem PySem.Spec PyProof.Rows

/-! ### a text walked sign by sign -/
def Its (x : Str) : It := ⟨fun i _ => i < x.cps.size, fun i H v H' => H' = H ∧ ∃ c, x.cps[i]? = some c ∧ v = .str ⟨#[c]⟩, fun i _ => i = x.cps.size⟩
section
variable {X : Cx} {tg : Expr}
def iStr (tl : TE) : TI := fun σ H R => tl σ H fun x H1 => ∃ z, x = .str z ∧ R (Its z) H1
end

/-! ### a list comprehension: one for with a name, no test or one -/
def pick (ix : List Nat) (σ : St) : St := ix.map fun i => (σ[i]?).join
def closOf (scope : Scope) (env : Env) : List (Str × Addr) := scope.names.foldl (fun cs y => if y.2 == .free then (y.1, (env.cells.lookup y.1).getD 0) :: cs else cs) []
theorem clos_mem (env : Env) : ∀ (l : List (Str × NameKind)) (acc : List (Str × Addr)) (p : Str × Addr), p ∈ l.foldl (fun cs y => if y.2 == NameKind.free then (y.1, (env.cells.lookup y.1).getD 0) :: cs else cs) acc →
    p ∈ acc ∨ ((p.1, NameKind.free) ∈ l ∧ p.2 = (env.cells.lookup p.1).getD 0)
  | [], _, _, h => .inl h
  | y :: l, acc, p, h => by
    rw [List.foldl_cons] at h
    rcases clos_mem env l _ p h with h1 | h1
    · by_cases hy : (y.2 == NameKind.free) = true
      · rw [if_pos hy] at h1
        rcases List.mem_cons.mp h1 with e | e
        · refine .inr ⟨?_, by rw [e]⟩
          have hk : y.2 = NameKind.free := by simpa using hy
          rw [e, ← hk]
          exact List.mem_cons_self
        · exact .inl e
      · rw [if_neg hy] at h1
        exact .inl h1
    · exact .inr ⟨List.mem_cons_of_mem _ h1.1, h1.2⟩
theorem clos_acc (env : Env) : ∀ (l : List (Str × NameKind)) (acc : List (Str × Addr)) (p : Str × Addr), p ∈ acc → p ∈ l.foldl (fun cs y => if y.2 == NameKind.free then (y.1, (env.cells.lookup y.1).getD 0) :: cs else cs) acc
  | [], _, _, h => h
  | y :: l, acc, p, h => by
    rw [List.foldl_cons]
    apply clos_acc env l
    split
    · exact List.mem_cons_of_mem _ h
    · exact h
theorem clos_has (env : Env) : ∀ (l : List (Str × NameKind)) (acc : List (Str × Addr)) (x : Str), (x, NameKind.free) ∈ l → ∃ c, (x, c) ∈ l.foldl (fun cs y => if y.2 == NameKind.free then (y.1, (env.cells.lookup y.1).getD 0) :: cs else cs) acc
  | [], _, _, h => nomatch h
  | y :: l, acc, x, h => by
    rw [List.foldl_cons]
    rcases List.mem_cons.mp h with e | e
    · subst e
      refine ⟨(env.cells.lookup x).getD 0, clos_acc env l _ _ ?_⟩
      rw [if_pos (by rfl)]
      exact List.mem_cons_self
    · exact clos_has env l _ x e
theorem lookup_some_of_mem {α : Type} : ∀ {l : List (Str × α)} {x : Str} {c : α}, (x, c) ∈ l → ∃ d, l.lookup x = some d
  | [], _, _, h => nomatch h
  | (y, d) :: l, x, c, h => by
    by_cases hx : (x == y) = true
    · exact ⟨d, by simp [List.lookup_cons, hx]⟩
    · have hx' : (x == y) = false := by simpa using hx
      rcases List.mem_cons.mp h with e | e
      · cases e
        simp at hx
      · obtain ⟨d', e'⟩ := lookup_some_of_mem e
        exact ⟨d', by simp [List.lookup_cons, hx', e']⟩
theorem clos_get {scope : Scope} {env : Env} (hf : ∀ y ∈ scope.names, y.2 = .free → ∃ c, env.cells.lookup y.1 = some c) {x : Str} {c : Addr} (h : (closOf scope env).lookup x = some c) : env.cells.lookup x = some c := by
  rcases clos_mem env scope.names [] (x, c) (PySem.mem_of_lookup h) with e | ⟨e1, e2⟩
  · exact nomatch e
  · obtain ⟨d, hd⟩ := hf _ e1 rfl
    have hd' : env.cells.lookup x = some d := hd
    have e3 : c = (env.cells.lookup x).getD 0 := e2
    rw [hd'] at e3 ⊢
    rw [e3]
    rfl
theorem clos_look {scope : Scope} {env : Env} {x : Str} (h : scope.names.lookup x = some .free) : ∃ c, (closOf scope env).lookup x = some c := by
  obtain ⟨c, hc⟩ := clos_has env scope.names [] x (PySem.mem_of_lookup h)
  exact lookup_some_of_mem hc
theorem closureFor_of {scope : Scope} {env : Env} (hf : ∀ y ∈ scope.names, y.2 = .free → ∃ c, env.cells.lookup y.1 = some c) : closureFor scope env = pure (closOf scope env) := by
  have all : ∀ (l : List (Str × NameKind)) (acc : List (Str × Addr)), (∀ y ∈ l, y.2 = .free → ∃ c, env.cells.lookup y.1 = some c) →
      (forIn l acc fun (x : Str × NameKind) (r : List (Str × Addr)) => if (x.2 == NameKind.free) = true then (do let a ← cellOf env x.1; pure (ForInStep.yield ((x.1, a) :: r))) else pure (ForInStep.yield r) : Sem (List (Str × Addr))) =
        pure (l.foldl (fun cs y => if y.2 == .free then (y.1, (env.cells.lookup y.1).getD 0) :: cs else cs) acc) := by
    intro l
    induction l with
    | nil => intro acc _; rfl
    | cons y l ih =>
      intro acc h
      rw [List.forIn_cons, List.foldl_cons]
      by_cases hy : (y.2 == NameKind.free) = true
      · obtain ⟨c, hc⟩ := h y List.mem_cons_self (by simpa using hy)
        rw [if_pos hy, if_pos hy]
        have e : cellOf env y.1 = pure c := by unfold cellOf; rw [hc]
        rw [e, hc]
        exact ih _ fun z hz => h z (List.mem_cons_of_mem _ hz)
      · rw [if_neg hy, if_neg hy]
        exact ih _ fun z hz => h z (List.mem_cons_of_mem _ hz)
  show ((forIn scope.names [] fun (x : Str × NameKind) (r : List (Str × Addr)) => if (x.2 == NameKind.free) = true then (do let a ← cellOf env x.1; pure (ForInStep.yield ((x.1, a) :: r))) else pure (ForInStep.yield r) : Sem (List (Str × Addr))) >>= fun r => pure r) = _
  rw [all scope.names [] hf]
  rfl

/-- a comprehension's scope: its own names, nothing bound in it is seen by others -/
structure LcScope (scope : Scope) (x : Str) (fv : List Str) (osc : Scope) : Prop where
  kind : scope.kind = .function
  nocell : ∀ y ∈ scope.names, y.2 ≠ .cell
  names : ∀ y ∈ scope.names, y.2 = .local → scope.names.lookup y.1 = some .local
  tgt : scope.names.lookup x = some .local
  free : ∀ y ∈ scope.names, y.2 = .free → osc.names.lookup y.1 = some .cell ∨ osc.names.lookup y.1 = some .free
  fvs : ∀ y ∈ fv, scope.names.lookup y = some .free
  nd : (x :: fv).Nodup

theorem relabel_free {scope : Scope} {env : Env} : ∀ {names : List (Str × NameKind)} {x : Str}, names.lookup x = some .free →
    (names.map fun (n, k) => if (k == NameKind.free && env.scope.kind == .function && env.kindOf n == some .cell) then (n, NameKind.cell) else (n, k)).lookup x = some .cell ∨
    (names.map fun (n, k) => if (k == NameKind.free && env.scope.kind == .function && env.kindOf n == some .cell) then (n, NameKind.cell) else (n, k)).lookup x = some .free
  | [], _, h => by simp at h
  | (n, k) :: r, x, h => by
    have ih := @relabel_free scope env r x
    show List.lookup x ((if (k == NameKind.free && env.scope.kind == .function && env.kindOf n == some .cell) = true then (n, NameKind.cell) else (n, k)) :: _) = _ ∨ List.lookup x ((if (k == NameKind.free && env.scope.kind == .function && env.kindOf n == some .cell) = true then (n, NameKind.cell) else (n, k)) :: _) = _
    cases hx : x == n with
    | true =>
      simp only [List.lookup_cons, hx] at h
      cases h
      by_cases hc : (NameKind.free == NameKind.free && env.scope.kind == .function && env.kindOf n == some .cell) = true
      · rw [if_pos hc]; left; simp [List.lookup_cons, hx]
      · rw [if_neg hc]; right; simp [List.lookup_cons, hx]
    | false =>
      simp only [List.lookup_cons, hx] at h
      by_cases hc : (k == NameKind.free && env.scope.kind == .function && env.kindOf n == some .cell) = true
      · rw [if_pos hc]; simp only [List.lookup_cons, hx]; exact ih h
      · rw [if_neg hc]; simp only [List.lookup_cons, hx]; exact ih h
/-- what is a cell or free behind the relabelling was free -/
theorem relabel_back {env : Env} : ∀ {names : List (Str × NameKind)} {x : Str}, (∀ y ∈ names, y.2 ≠ NameKind.cell) →
    ((names.map fun (n, k) => if (k == NameKind.free && env.scope.kind == .function && env.kindOf n == some .cell) then (n, NameKind.cell) else (n, k)).lookup x = some .cell ∨
    (names.map fun (n, k) => if (k == NameKind.free && env.scope.kind == .function && env.kindOf n == some .cell) then (n, NameKind.cell) else (n, k)).lookup x = some .free) → names.lookup x = some .free
  | [], _, _, h => by simp at h
  | (n, k) :: r, x, hn, h => by
    have ih := @relabel_back env r x fun y hy => hn y (List.mem_cons_of_mem _ hy)
    have hk := hn (n, k) List.mem_cons_self
    change List.lookup x ((if (k == NameKind.free && env.scope.kind == .function && env.kindOf n == some .cell) = true then (n, NameKind.cell) else (n, k)) :: _) = _ ∨ List.lookup x ((if (k == NameKind.free && env.scope.kind == .function && env.kindOf n == some .cell) = true then (n, NameKind.cell) else (n, k)) :: _) = _ at h
    cases hx : x == n with
    | true =>
      by_cases hc : (k == NameKind.free && env.scope.kind == .function && env.kindOf n == some .cell) = true
      · have hf : k = NameKind.free := by
          rw [Bool.and_eq_true, Bool.and_eq_true] at hc
          simpa using hc.1.1
        subst hf
        simp [List.lookup_cons, hx]
      · rw [if_neg hc] at h
        simp only [List.lookup_cons, hx] at h ⊢
        rcases h with h | h
        · cases h; exact absurd rfl hk
        · exact h
    | false =>
      by_cases hc : (k == NameKind.free && env.scope.kind == .function && env.kindOf n == some .cell) = true
      · rw [if_pos hc] at h; simp only [List.lookup_cons, hx] at h ⊢; exact ih h
      · rw [if_neg hc] at h; simp only [List.lookup_cons, hx] at h ⊢; exact ih h

/-- the context of a comprehension's block -/
def Cx.comp (X : Cx) (scope : Scope) (N' : List Str) (C : Addr) (s₀ : Shared) (H₀ : Hp) (ex : List Addr) : Cx where
  prog := X.prog
  w := X.w
  K := X.K
  mg := X.mg
  base := X.base
  A := X.A
  N := N'
  s₀ := s₀
  H₀ := H₀
  env := compEnvC scope (closOf scope X.env) C X.env
  outer := X.stack
  stack := X.stack
  ex := ex
  fn := fun _ => false
  calm := X.calm
  pn := []
  xe := fun _ _ => False

/-- the tests of a comprehension's for -/
def PIfs (X : Cx) (ifs : List Expr) (t : TT) : Prop :=
  ∀ (pins : List (Addr × Obj)) (s : Shared) (σ : St) (H : Hp) (Q : Bool → Hp → Prop), Inv X pins σ H s → t σ H Q →
    wpAny (model X.prog X.w) X.A (forIn ifs true fun c r => if r = true then do let ok ← isTrue c X.env (eval c X.env); pure (ForInStep.yield ok) else pure (ForInStep.yield r)) (TP X pins σ Q) X.xe s
def tYes : TT := fun _ H Q => Q true H
theorem pifs_nil {X : Cx} : PIfs X [] tYes := fun _ _ _ H _ I h => wpAny_tests_nil ⟨H, I, h⟩
/-- W: the invariant by the turn, a measure, the items so far -/
def LcW (J : It) (ix : List Nat) (σ : St) (tt : TT) (te : TE) (Q : VK) (H1 : Hp) : Prop := ∃ W : Nat → Nat → List V → Hp → Prop, (∃ m, W 0 m [] H1) ∧ ∀ i m ys H2, W i m ys H2 →
  (J.stop i H2 ∧ ∀ D, H2 D = none → Q (.ref D) (upd H2 D (.lst ys))) ∨
  (J.go i H2 ∧ ys.length < sizeLine ∧ ∀ x H3, J.yld i H2 x H3 → tt (some x :: pick ix σ) H3 fun b H4 => if b = true then te (some x :: pick ix σ) H4 fun y H5 => ∃ m', m' < m ∧ W (i + 1) m' (ys ++ [y]) H5 else ∃ m', m' < m ∧ W (i + 1) m' ys H4)
def tLC (ix : List Nat) (wi : TI) (tt : TT) (te : TE) : TE := fun σ H Q => wi σ H fun J H1 => LcW J ix σ tt te Q H1

theorem codeAny_compLoop_own {prog : Program} {w : World} {A : Around} {R : Result → Shared → Prop} {s : Shared} {elt target iter : Expr} {ifs : List Expr} {scope : Scope} {pos : Pos} {it acc : Value} {env : Env} (I : Nat → Shared → Prop)
    (turn : ∀ n s, I n s → wpAny (model prog w) A (pyNext it) (fun r s₁ => match r with
      | none => R (.ok .next) s₁
      | some v => wpAny (model prog w) A (letOwnedTupleGo target it v) (fun _ s₁ => wpAny (model prog w) A (assign target env v) (fun _ s₂ =>
          wpAny (model prog w) A (forIn ifs true fun c r => if r = true then do let ok ← isTrue c env (eval c env); pure (ForInStep.yield ok) else pure (ForInStep.yield r)) (fun ok s₃ =>
            if ok = true then wpAny (model prog w) A (eval elt env) (fun x s₄ =>
              wpAny (model prog w) A (call (.builtin "list.append") [acc, x]) (fun _ s₅ => ∃ m, m < n ∧ I m s₅) (fun _ _ => False) s₄) (fun _ _ => False) s₃
            else ∃ m, m < n ∧ I m s₃) (fun _ _ => False) s₂) (fun _ _ => False) s₁) (fun _ _ => False) s₁) (fun _ _ => False) s)
    (n : Nat) (h : I n s) :
    codeAny (model prog w) A (.compLoop (.ListComp elt [⟨target, iter, ifs, 0⟩] scope pos) 0 it acc env) R s := by
  refine codeAny_loop rfl I (fun n s hI => ?_) n h
  show wpAny _ A ((compTurn (.ListComp elt [⟨target, iter, ifs, 0⟩] scope pos) 0 it acc env).onRaise (fun x => do noteFrame x env; theTreesLotGoes x)) _ _ s
  refine wpAny_noted ?_
  rw [compTurn_list]
  refine wpAny_bind (wpAny_standAt (wpAny_bind (wpAny_mono (turn n s hI) (fun r s₁ h₁ => ?_) fun _ _ h' => h'.elim)))
  cases r with
  | none => exact wpAny_pure h₁
  | some v =>
    refine wpAny_bind (wpAny_mono h₁ (fun _ s₁' h₁' => ?_) fun _ _ h' => h'.elim)
    refine wpAny_bind (wpAny_mono h₁' (fun _ s₂ h₂ => wpAny_bind (wpAny_mono h₂ (fun ok s₃ h₃ => ?_) fun _ _ h' => h'.elim)) fun _ _ h' => h'.elim)
    cases ok with
    | false => exact wpAny_pure ⟨rfl, h₃⟩
    | true =>
      exact wpAny_bind (wpAny_bind (wpAny_mono h₃ (fun x s₄ h₄ => wpAny_bind (wpAny_mono h₄ (fun _ s₅ h₅ => wpAny_pure (wpAny_pure ⟨rfl, h₅⟩)) fun _ _ h' => h'.elim)) fun _ _ h' => h'.elim))

section
variable {X : Cx} {scope : Scope} {x : Str} {fv : List Str} {ix : List Nat}
theorem LcScope.cells (S : LcScope scope x fv X.env.scope) (ok : X.Ok) : ∀ y ∈ scope.names, y.2 = .free → ∃ c, X.env.cells.lookup y.1 = some c := fun y hy hf => by
  rcases S.free y hy hf with e | e
  · exact ok.has y.1 (.inl e)
  · exact ok.has y.1 (.inr e)
theorem comp_ok {pins : List (Addr × Obj)} {σ : St} {H : Hp} {s : Shared} {C : Addr} {fp : List Addr} (S : LcScope scope x fv X.env.scope) (I : Inv X pins σ H s) (hC : s.heap.objs.size ≤ C) (f2 : ∀ b ∈ fp, FpOk X pins H b) (fl : ∀ b ∈ fp, b < s.heap.objs.size) :
    (X.comp scope (x :: fv) C s H fp).Ok := by
  have hcl := S.cells I.ok
  refine ⟨I.ok.mod, S.kind, I.ok.glob, I.ok.blt, hC, fun y z c h1 h2 => I.ok.inj y z c (clos_get hcl h1) (clos_get hcl h2), fun y hy => ?_, fun y c hfn _ => absurd (show false = true from hfn) (by decide), I.ok.hd, I.ok.frames, .inl rfl,
    fun b hb => ⟨Nat.ne_of_lt (Nat.lt_of_lt_of_le (fl b hb) hC), fun y c h1 => (f2 b hb).2.2.2.2.1 y c (clos_get hcl h1)⟩, I.bs, Nat.le_trans I.ok.bsz I.sz, fun b o e hb => ?_, fun b hb hs => ?_, I.stack, I.stkFree⟩
  · exact clos_look (relabel_back S.nocell hy)
  · rcases (f2 b hb).2.2.2.1 with z | z
    · exact I.ok.noex b o e z
    · exact absurd (Nat.lt_of_lt_of_le (Heap.lt_size (I.ok.bs b o e).1) z) (Nat.lt_irrefl _)
  · rcases List.mem_cons.mp (I.stkSub b hs) with z | z
    · exact (f2 b hb).2.1 z
    · exact (f2 b hb).2.2.1 z
end
end L2

set_option Elab.async false
set_option linter.all false
set_option maxRecDepth 100000
set_option maxHeartbeats 4000000
namespace L2
open PySem PySem.Spec PyProof.Rows
section
variable {X : Cx} {scope : Scope} {x : Str} {fv : List Str} {ix : List Nat}
def lobj (its : List Value) (n : Nat) : Obj := { cls := .type "list", data := .seq its.toArray n }
/-- the block's entry -/
theorem comp_start {pins : List (Addr × Obj)} {σ : St} {H : Hp} {s : Shared} {C D : Addr} {fp : List Addr} {h₁ : Heap} {m : Str → Option Value} {tk n : Nat} (S : LcScope scope x fv X.env.scope) (hix : ix.map (fun i => X.N[i]?) = fv.map some) (I : Inv X pins σ H s)
    (hD : s.heap.objs.size ≤ D) (hDC : D ≠ C) (hC : s.heap.objs.size ≤ C) (f2 : ∀ b ∈ fp, FpOk X pins H b) (fl : ∀ b ∈ fp, b < s.heap.objs.size)
    (hns : h₁.Ns C m) (old : ∀ b o, s.heap.get? b = some o → h₁.get? b = some o) (hacc : h₁.get? D = some (lobj [] n)) :
    Inv (X.comp scope (x :: fv) C s H fp) [(D, lobj [] n)] (none :: pick ix σ) H { s with heap := h₁, toks := tk } := by
  have hcl := S.cells I.ok
  refine ⟨comp_ok S I hC f2 fl, rfl, I.bare, Un.kept old, ⟨m, hns, fun i y v h1 h2 h3 => ?_⟩, fun y c h1 => ?_, I.hok.fresh hC, fun y c h1 => I.freeC y c (clos_get hcl h1), fun p hp => ?_, I.hok.kept old, ?_⟩
  · cases i with
    | zero => simp at h2
    | succ i =>
      have h1' : fv[i]? = some y := by simpa [Cx.comp] using h1
      have h2' : (pick ix σ)[i]? = some (some v) := by simpa using h2
      unfold pick at h2'
      rw [List.getElem?_map] at h2'
      cases e : ix[i]? with
      | none => rw [e] at h2'; cases h2'
      | some j =>
        rw [e] at h2'
        have e2 : (σ[j]?).join = some v := by simpa using h2'
        have e3 : σ[j]? = some (some v) := by
          cases q : σ[j]? with
          | none => rw [q] at e2; cases e2
          | some o => rw [q] at e2; rw [show o = some v from e2]
        have e4 : X.N[j]? = some y := by
          have := congrArg (fun l => l[i]?) hix
          simp only [List.getElem?_map, e, h1', Option.map_some] at this
          exact Option.some.inj this
        have hyf := S.fvs y (List.mem_of_getElem? h1')
        have hout := S.free (y, .free) (PySem.mem_of_lookup hyf) rfl
        obtain ⟨m0, hn0, hl0⟩ := I.loc
        obtain ⟨u, r, lk⟩ := hl0 j y v e4 e3 (hout.elim (fun z => .inr (.inl z)) fun z => .inr (.inr z))
        refine ⟨u, r, .inr ⟨?_, ?_⟩⟩
        · exact relabel_free (scope := scope) (env := X.env) hyf
        · rcases lk with ⟨k, _⟩ | ⟨_, c, hc, hcell⟩
          · rcases hout with z | z
            · have k' : X.env.scope.names.lookup y = some .local := k
              rw [show X.env.scope.names.lookup y = some .cell from z] at k'; cases k'
            · have k' : X.env.scope.names.lookup y = some .local := k
              rw [show X.env.scope.names.lookup y = some .free from z] at k'; cases k'
          · obtain ⟨c', hc'⟩ := clos_look (env := X.env) hyf
            have e5 := clos_get hcl hc'
            rw [hc] at e5
            cases e5
            obtain ⟨o, ho, hd⟩ := hcell
            exact ⟨c, hc', o, old c o ho, hd⟩
  · obtain ⟨v, o, ho, hd⟩ := I.cell y c (clos_get hcl h1)
    exact ⟨v, o, old c o ho, hd⟩
  · have hp' : p = (D, lobj [] n) := by simpa [Cx.comp] using hp
    subst hp'
    refine ⟨hacc, I.hok.fresh hD, hDC, fun hs => ?_, fun v z => ?_⟩
    · rcases List.mem_cons.mp (I.stkSub _ hs) with z | z
      · exact absurd (show D = X.env.locals from z) (Nat.ne_of_gt (Nat.lt_of_lt_of_le I.lt hD))
      · exact I.nofs hD z
    · have z' : Data.seq _ _ = Data.cell v := z
      cases z'
  · show (none :: pick ix σ).length = (x :: fv).length
    have := congrArg List.length hix
    simp only [List.length_map] at this
    simp [pick, this]
/-- the block's end: the outer frame again, the list is tracked -/
theorem comp_end {pins : List (Addr × Obj)} {σ σ' : St} {H H' : Hp} {s s1 : Shared} {C D : Addr} {fp : List Addr} {h' : Heap} {its : List Value} {ys : List V} {n : Nat} (I : Inv X pins σ H s)
    (hD : s.heap.objs.size ≤ D) (hC : s.heap.objs.size ≤ C) (f2 : ∀ b ∈ fp, FpOk X pins H b)
    (I1 : Inv (X.comp scope (x :: fv) C s H fp) [(D, lobj its n)] σ' H' s1) (hs : Heap.SameBut C s1.heap h') (rv : Vals ys its) (hz : ys.length ≤ sizeLine) :
    Inv X pins σ (upd H' D (.lst ys)) { s1 with heap := h' } ∧ H' D = none := by
  obtain ⟨eD, nD, neD, nfD, _⟩ := I1.pin (D, lobj its n) (by simp [Cx.comp])
  have neDC : D ≠ C := neD
  have hfree : H' C = none := I1.free
  have eD' : h'.get? D = some (lobj its n) := (hs.2 D neDC).trans eD
  have lt : ∀ b o, s.heap.get? b = some o → b ≠ C ∧ b ≠ D := fun b o e => ⟨Nat.ne_of_lt (Nat.lt_of_lt_of_le (Heap.lt_size e) hC), Nat.ne_of_lt (Nat.lt_of_lt_of_le (Heap.lt_size e) hD)⟩
  have U : Un (frs X.stack) fp H H' s.heap s1.heap := I1.base
  have nDof : ∀ b u, H' b = some u → b ≠ D := fun b u e => ne_of_none e nD
  have U' : Un (frs X.stack) fp H (upd H' D (.lst ys)) s.heap h' := by
    refine ⟨fun b o e n hb he => ?_, fun b o e n hb he => ?_, fun b o e n he => ?_, fun b o e he => ?_, fun b xs e => ?_, fun b o u e => ?_, fun b ps e => ?_⟩
    · exact (hs.2 b (lt b o e).1).trans (U.keep b o e n hb he)
    · obtain ⟨sl, q⟩ := U.slot b o e n hb he
      exact ⟨sl, (hs.2 b (lt b o e).1).trans q⟩
    · rw [upd_ne (lt b o e).2]
      exact U.free b o e n he
    · obtain ⟨o', q⟩ := U.there b o e he
      exact ⟨o', (hs.2 b (lt b o e).1).trans q⟩
    · have := U.tups b xs e
      rw [upd_ne (nDof b _ this)]; exact this
    · have := U.frzs b o u e
      rw [upd_ne (nDof b _ this)]; exact this
    · obtain ⟨more, this⟩ := U.tbls b ps e
      exact ⟨more, by rw [upd_ne (nDof b _ this)]; exact this⟩
  have hok : HOk X.prog X.w (upd H' D (.lst ys)) h' := fun b u e => by
    by_cases hb : b = D
    · subst hb
      rw [upd_same] at e
      cases e
      exact ⟨hz, its, n, rv, eD'⟩
    · rw [upd_ne hb] at e
      refine (I1.hok b u e).stay (fun c v hc q => (hs.2 c ?_).trans q) (fun c q => by rw [upd_ne (nDof c _ q)]; exact q) fun c xs q => by rw [upd_ne (nDof c _ q)]; exact q
      rintro rfl
      rcases hc with hc | hc
      · rw [← hc, hfree] at e; cases e
      · rw [hfree] at hc; cases hc
  exact ⟨I.call' (s' := { s1 with heap := h' }) (ch := fp) I1.os U' hok I1.bare fun b hb => ⟨(f2 b hb).2.2.2.1, (f2 b hb).2.1, (f2 b hb).2.2.2.2.1, (f2 b hb).2.2.2.2.2⟩, nD⟩

end

/-! ### the forms one uses: the items are known, the elements leave the heap as it is -/
section
variable {Q : VK} {ix : List Nat} {tt : TT} {te : TE} {σ : St} {H : Hp}
end
end L2

set_option Elab.async false
set_option linter.all false
set_option maxRecDepth 100000
set_option maxHeartbeats 4000000
namespace L2
open PySem PySem.Spec PyProof.Rows
section
variable {X : Cx} {a b : Expr} {ta tb : TE} {pos : Pos}
/-! ### is, is not of truths -/
/-! ### texts -/
theorem op_mul_str : OpR X (binaryOp .Mult) (fun x y H Q => ∃ z n, x = .str z ∧ y = .int n ∧ MulOk z n ∧ Q (.str (Txt.mul z n)) H) := by
  intro pins s σ H x y v u Q I rx ry h
  obtain ⟨z, n, rfl, rfl, hm, q⟩ := h
  obtain ⟨t, rfl⟩ := rx
  obtain ⟨t', rfl⟩ := ry
  exact SB.mul hm fun t' k => ⟨.str (Txt.mul z n), H, I.tok _, ⟨_, rfl⟩, q⟩
def rSlS : V → Option Int → Option Int → Hp → VK → Prop := fun x lo hi H Q => ∃ z, x = .str z ∧ z.length ≤ sizeLine ∧ Q (.str (Txt.slice z lo hi)) H
/-! ### all of a list of truths -/
/-! ### isinstance of a built-in class -/
end
end L2

set_option Elab.async false
set_option linter.all false
set_option maxRecDepth 100000
set_option maxHeartbeats 4000000
namespace L2
open PySem PySem.Spec PyProof.Rows
/-! ### a def of the top, by its name -/
structure Fn (K : PySem.W.Frag) (mg : Str → Option Value) (x : Str) (st : Stmt) (ps : List Str) (f : Addr) (fd : FuncData) : Prop where
  fu : Fun K x x st f fd
  mgx : mg x = some (.ref f)
  bd : Binds K fd ps []
def HasFn (K : PySem.W.Frag) (mg : Str → Option Value) (x : Str) (st : Stmt) (ps : List Str) : Prop := ∃ f fd, Fn K mg x st ps f fd
section
variable {X : Cx} {x : Str} {st : Stmt} {ps : List Str} {f : Addr} {fd : FuncData} {k : Nat} {sp : Sp} {e : Expr} {es : List Expr} {t : TA} {p pos : Pos}
theorem pe_fn (N : Fn X.K X.mg x st ps f fd) (G : FnOk X.prog X.w X.K X.mg X.base CX0 k f fd ps sp) (hr : Room k X.A) (ha : PA X (e :: es) t) (hg : Gl X x := by rfl)
    (hdb : (x == ("__debug__" : Str)) = false := by decide) (he : starEach (e :: es) X.env = (false, eval e X.env) :: starEach es X.env := by rfl) (hpl : (backTo pos (starEach es X.env)).any (·.1) = false := by rfl) :
    PE X (.Call (.Name x p) (e :: es) [] pos) (tCall sp [] E0 t) := pe_call G hr hg N.mgx N.fu.kp N.bd .nil pass0 ha hdb he hpl
theorem pe_gl {v : V} (h : ∃ u, X.mg x = some u ∧ RelV v u) (hg : Gl X x := by rfl) (hd : (x == ("__debug__" : Str)) = false := by decide) : PE X (.Name x pos) (tC v) := by
  obtain ⟨u, h1, h2⟩ := h
  exact pe_glob hg h1 h2 hd
theorem pe_ty {T : String} (hm : X.mg x = none) (hv : bootBuiltins x = some (.type T)) (hg : Gl X x := by rfl) (hn : x ≠ "__name__" := by decide) (hd : (x == ("__debug__" : Str)) = false := by decide) : PE X (.Name x pos) (tC (.ty T)) :=
  pe_bltn hg hm hv rfl hn hd
end
/-! ### signs -/
def okSign (c : Nat) : Bool := decide (32 ≤ c ∧ c ≤ 126)
def plainB (z : Str) (lo hi : Int) : Bool := decide (lo ≤ z.length ∧ (z.length : Int) ≤ hi) && z.cps.toList.all okSign
/-- a thing that is no text -/
def NotStr (K : PySem.W.Frag) (H : Hp) (v : V) : Prop := ∃ t, TyOf K H v t ∧ PySem.W.kitOne K t (.type "str") = some false
end L2

set_option Elab.async false
set_option linter.all false
set_option maxRecDepth 100000
set_option maxHeartbeats 4000000
namespace L2
open PySem PySem.Spec PyProof.Rows PySem.SeqAt
section
variable {X : Cx}
/-- what is no number -/
inductive NoNum (H : Hp) : V → Prop where
  | non : NoNum H .non
  | str (x : Str) : NoNum H (.str x)
  | lst {a : Addr} {xs : List V} (e : H a = some (.lst xs)) : NoNum H (.ref a)
  | tup {a : Addr} {xs : List V} (e : H a = some (.tup xs)) : NoNum H (.ref a)
  | dK {a : Addr} {kvs : List (Key × V)} (e : H a = some (.dK kvs)) : NoNum H (.ref a)
end
end L2

set_option Elab.async false
set_option linter.all false
set_option maxRecDepth 100000
set_option maxHeartbeats 4000000
namespace L2
open PySem PySem.Spec PyProof.Rows
/-! ### arguments without a star, seen by the expression's head alone -/
def isStar : Expr → Bool
  | .Starred .. => true
  | _ => false
theorem star_cons {e : Expr} {es : List Expr} {env : Env} (h : isStar e = false) : starEach (e :: es) env = (false, eval e env) :: starEach es env := by
  cases e <;> first
    | rfl
    | (have h' : true = false := h; cases h')
def noStar : List Expr → Bool
  | [] => true
  | e :: es => !isStar e && noStar es
theorem star_any {pos : Pos} {env : Env} : ∀ {es : List Expr}, noStar es = true → (backTo pos (starEach es env)).any (·.1) = false
  | [], _ => rfl
  | e :: es, h => by
    have h' : (!isStar e && noStar es) = true := h
    rw [Bool.and_eq_true] at h'
    have h1 : isStar e = false := by simpa using h'.1
    rw [star_cons h1]
    show (false || (backTo pos (starEach es env)).any (·.1)) = false
    rw [star_any h'.2]
    rfl
section
variable {X : Cx} {x : Str} {st : Stmt} {ps : List Str} {f : Addr} {fd : FuncData} {k : Nat} {sp : Sp} {e : Expr} {es : List Expr} {t : TA} {te : TE} {p pos : Pos} {id T : String} {r : List V → Hp → VK → Prop}
theorem pa_c (ha : PE X e te) (hr : PA X es t) (h : isStar e = false := by rfl) : PA X (e :: es) (tCons te t) := pa_cons ha hr (star_cons h)
theorem pe_f (N : Fn X.K X.mg x st ps f fd) (G : FnOk X.prog X.w X.K X.mg X.base CX0 k f fd ps sp) (hr : Room k X.A) (ha : PA X (e :: es) t) (hg : Gl X x := by rfl) (hdb : (x == ("__debug__" : Str)) = false := by decide) (h1 : isStar e = false := by rfl) (h2 : noStar es = true := by rfl) :
    PE X (.Call (.Name x p) (e :: es) [] pos) (tCall sp [] E0 t) := pe_fn N G hr ha hg hdb (star_cons h1) (star_any h2)
theorem pe_b (hc : CallR X (.builtin id) r) (hm : X.mg x = none) (hv : bootBuiltins x = some (.builtin id)) (ha : PA X (e :: es) t) (hg : Gl X x := by rfl) (hn : x ≠ "__name__" := by decide) (hdb : (x == ("__debug__" : Str)) = false := by decide) (h1 : isStar e = false := by rfl) (h2 : noStar es = true := by rfl) :
    PE X (.Call (.Name x p) (e :: es) [] pos) (tCB r t) := pe_callB hc hg hm hv ha hn hdb (star_cons h1) (star_any h2)
theorem pe_t (hc : CallR X (.type T) r) (hm : X.mg x = none) (hv : bootBuiltins x = some (.type T)) (ha : PA X (e :: es) t) (hg : Gl X x := by rfl) (hn : x ≠ "__name__" := by decide) (hdb : (x == ("__debug__" : Str)) = false := by decide) (h1 : isStar e = false := by rfl) (h2 : noStar es = true := by rfl) :
    PE X (.Call (.Name x p) (e :: es) [] pos) (tCB r t) := pe_callTy hc hg hm hv ha hn hdb (star_cons h1) (star_any h2)
theorem pi_r1 {tg a : Expr} {ta : TA} (hm : X.mg "range" = none) (ha : PA X [a] ta) (hg : Gl X "range" := by rfl) (h1 : isStar a = false := by rfl) : PI X tg (.Call (.Name "range" p) [a] [] pos) (iRng1 ta) := pi_range1 hg hm ha (by rw [star_cons h1]; rfl)
end
end L2

set_option Elab.async false
set_option linter.all false
set_option maxRecDepth 100000
set_option maxHeartbeats 4000000
namespace L2
open PySem PySem.Spec PyProof.Rows
theorem len_list (z : Str) : z.length = z.cps.toList.length := by simp [Str.length]
end L2
namespace L2
open PySem PySem.Spec PyProof.Rows
end L2
namespace L2
open PySem PySem.Spec PyProof.Rows
section
variable {K : PySem.W.Frag}
theorem TyOf.same {H H' : Hp} {v : V} {t : Value} (ty : TyOf K H v t) (s : Same H H') : TyOf K H' v t := by
  cases ty with
  | non => exact .non
  | bl x => exact .bl x
  | int i => exact .int i
  | str x => exact .str x
  | flt x => exact .flt x
  | lst e => exact .lst (s _ _ e)
  | frz e => exact .frz (s _ _ e)
  | tup e => exact .tup (s _ _ e)
  | dK e => exact .dK (s _ _ e)
  | dT e => exact .dT (s _ _ e)
  | ins e cl ha hn htk hm => exact .ins (s _ _ e) cl ha hn htk hm
theorem NotStr.same {H H' : Hp} {v : V} (h : NotStr K H v) (s : Same H H') : NotStr K H' v := by
  obtain ⟨t, ty, k⟩ := h
  exact ⟨t, ty.same s, k⟩
theorem NoNum.same {H H' : Hp} {v : V} (h : NoNum H v) (s : Same H H') : NoNum H' v := by
  cases h with
  | non => exact .non
  | str x => exact .str x
  | lst e => exact .lst (s _ _ e)
  | tup e => exact .tup (s _ _ e)
  | dK e => exact .dK (s _ _ e)
end
end L2

set_option Elab.async false
set_option linter.all false
set_option maxRecDepth 100000
set_option maxHeartbeats 4000000
namespace L2
open PySem PySem.Spec PyProof.Rows
/-! ### rules for whatever kinds the operands are of -/
section
variable {X : Cx}
def rAddP (K : PySem.W.Frag) : R2 := fun x y H Q => rI0 (fun i j => .int (i + j)) x y H Q ∨ (∃ i j, x = .str i ∧ y = .str j ∧ i.length + j.length ≤ sizeLine ∧ Q (.str (i ++ j)) H) ∨ rCat x y H Q ∨ rCatT K x y H Q
theorem o_add : OpR X (binaryOp .Add) (rAddP X.K) := op_add.or (op_add_str.or (op_cat.or op_catT))
def rMulP : R2 := fun x y H Q => rI CMul (fun i j => .int (i * j)) x y H Q ∨ (∃ z n, x = .str z ∧ y = .int n ∧ MulOk z n ∧ Q (.str (Txt.mul z n)) H) ∨ rRep x y H Q
theorem o_mul : OpR X (binaryOp .Mult) rMulP := op_mul.or (op_mul_str.or op_rep)
def rLtP : R2 := fun x y H Q => rI0 (fun i j => .bl (decide (i < j))) x y H Q ∨ (∃ i j, x = .str i ∧ y = .str j ∧ Q (.bl (decide (i.cps.toList < j.cps.toList))) H)
theorem o_lt : OpR X (compareOp .Lt) rLtP := op_lt.or op_lt_str
def rLeP : R2 := fun x y H Q => rI0 (fun i j => .bl (decide (i ≤ j))) x y H Q ∨ (∃ i j, x = .str i ∧ y = .str j ∧ Q (.bl (!decide (j.cps.toList < i.cps.toList))) H)
def rSlP (K : PySem.W.Frag) : V → Option Int → Option Int → Hp → VK → Prop := fun x lo hi H Q => rSlS x lo hi H Q ∨ rSlL K x lo hi H Q ∨ rSlT K x lo hi H Q
end
/-! ### how a reading is gone along, by the head of what is asked -/
section
variable {X : Cx} {K : PySem.W.Frag} {σ : St} {H : Hp} {D : Ends} {Q : VK} {E : XK}
theorem rd_mod {i j : Int} (hc : 0 < j) (h : Q (.int (i % j)) H) : rI (fun _ j => 0 < j) (fun i j => .int (i % j)) (.int i) (.int j) H Q := ⟨i, j, rfl, rfl, hc, h⟩
theorem rd_fdiv {i j : Int} (hc : 0 < j ∧ j < 1073741824) (h : Q (.int (i / j)) H) : rI CDiv (fun i j => .int (i / j)) (.int i) (.int j) H Q := ⟨i, j, rfl, rfl, hc, h⟩
theorem rd_pow {i j : Int} (hc : 0 ≤ j ∧ j ≤ 1000000 ∧ i.natAbs < 2 ^ 64) (h : Q (.int (i ^ j.toNat)) H) : rI CPow (fun i j => .int (i ^ j.toNat)) (.int i) (.int j) H Q := ⟨i, j, rfl, rfl, hc, h⟩
theorem rd_shr {i j : Int} (hc : 0 ≤ j) (h : Q (.int (i / 2 ^ j.toNat)) H) : rI (fun _ j => 0 ≤ j) (fun i j => .int (i / 2 ^ j.toNat)) (.int i) (.int j) H Q := ⟨i, j, rfl, rfl, hc, h⟩
theorem rd_addI {i j : Int} (h : Q (.int (i + j)) H) : rAddP K (.int i) (.int j) H Q := .inl ⟨i, j, rfl, rfl, h⟩
theorem rd_addS {i j : Str} (hz : i.length + j.length ≤ sizeLine) (h : Q (.str (i ++ j)) H) : rAddP K (.str i) (.str j) H Q := .inr (.inl ⟨i, j, rfl, rfl, hz, h⟩)
theorem same_new {p : Addr} {o : HO} (h : H p = none) : Same H (upd H p o) := fun b u e => by rw [upd_ne (ne_of_none e h)]; exact e
theorem rd_addL {l b : Addr} {xs ys : List V} (h1 : H l = some (.lst xs)) (h2 : H b = some (.lst ys)) (hz : xs.length + ys.length ≤ sizeLine) (h : ∀ p H1, H p = none → Same H H1 → H1 p = some (.lst (xs ++ ys)) → Q (.ref p) H1) : rAddP K (.ref l) (.ref b) H Q :=
  .inr (.inr (.inl ⟨l, b, xs, ys, rfl, rfl, h1, h2, hz, fun p hp => h p _ hp (same_new hp) upd_same⟩))
theorem rd_addT {l b : Addr} {xs ys : List V} (h1 : H l = some (.tup xs)) (h2 : H b = some (.tup ys)) (hx : xs ≠ []) (hz : xs.length + ys.length ≤ sizeLine) (h : ∀ p H1, Same H H1 → H1 p = some (.tup (xs ++ ys)) → Q (.ref p) H1) : rAddP K (.ref l) (.ref b) H Q := by
  refine .inr (.inr (.inr ⟨l, b, xs, ys, rfl, rfl, .of h1, .of h2, hx, hz, fun e => ?_, fun _ p hp => h p _ (same_new hp) upd_same⟩))
  refine h l H (Same.refl H) ?_
  rw [e, List.append_nil]
  exact h1
theorem rd_mulI {i j : Int} (hc : CMul i j) (h : Q (.int (i * j)) H) : rMulP (.int i) (.int j) H Q := .inl ⟨i, j, rfl, rfl, hc, h⟩
theorem rd_ltI {i j : Int} (h : Q (.bl (decide (i < j))) H) : rLtP (.int i) (.int j) H Q := .inl ⟨i, j, rfl, rfl, h⟩
theorem rd_ltS {i j : Str} (h : Q (.bl (decide (i.cps.toList < j.cps.toList))) H) : rLtP (.str i) (.str j) H Q := .inr ⟨i, j, rfl, rfl, h⟩
theorem rd_leI {i j : Int} (h : Q (.bl (decide (i ≤ j))) H) : rLeP (.int i) (.int j) H Q := .inl ⟨i, j, rfl, rfl, h⟩
theorem rd_leS {i j : Str} (h : Q (.bl (!decide (j.cps.toList < i.cps.toList))) H) : rLeP (.str i) (.str j) H Q := .inr ⟨i, j, rfl, rfl, h⟩
end
end L2

set_option Elab.async false
set_option linter.all false
set_option maxRecDepth 100000
set_option maxHeartbeats 4000000
namespace L2
open PySem PySem.Spec PyProof.Rows PySem.SeqAt
/-! ### plain data, and how it lies on the heap -/
inductive D where
  | non | bl (b : Bool) | int (i : Int) | str (x : Str) | lst (xs : List D) | tup (xs : List D) | dct
mutual
def Rep (H : Hp) : D → V → Prop
  | .non, v => v = .non
  | .bl b, v => v = .bl b
  | .int i, v => v = .int i
  | .str x, v => v = .str x
  | .lst ds, v => ∃ a vs, v = .ref a ∧ H a = some (.lst vs) ∧ Reps H ds vs
  | .tup ds, v => ∃ a vs, v = .ref a ∧ H a = some (.tup vs) ∧ Reps H ds vs
  | .dct, v => ∃ a kvs, v = .ref a ∧ H a = some (.dK kvs)
def Reps (H : Hp) : List D → List V → Prop
  | [], vs => vs = []
  | d :: ds, vs => ∃ v r, vs = v :: r ∧ Rep H d v ∧ Reps H ds r
end
mutual
def pyEq : D → D → Bool
  | .non, .non => true
  | .bl a, .bl b => a == b
  | .bl a, .int i => (if a then 1 else 0) == i
  | .int i, .bl a => i == (if a then 1 else 0)
  | .int i, .int j => i == j
  | .str x, .str y => x == y
  | .lst xs, .lst ys => pyEqs xs ys
  | .tup xs, .tup ys => pyEqs xs ys
  | .dct, .dct => true
  | _, _ => false
def pyEqs : List D → List D → Bool
  | [], [] => true
  | x :: xs, y :: ys => pyEq x y && pyEqs xs ys
  | _, _ => false
end
mutual
def D.dep : D → Nat
  | .lst ds => D.deps ds + 1
  | .tup ds => D.deps ds + 1
  | .dct => 1000
  | _ => 0
def D.deps : List D → Nat
  | [] => 0
  | d :: ds => max (D.dep d) (D.deps ds)
end
theorem Reps.length {H : Hp} : ∀ {ds : List D} {vs : List V}, Reps H ds vs → ds.length = vs.length
  | [], vs, h => by simp only [Reps] at h; subst h; rfl
  | d :: ds, vs, h => by
    simp only [Reps] at h
    obtain ⟨v, r, rfl, _, h⟩ := h
    rw [List.length_cons, List.length_cons, Reps.length h]
mutual
theorem Rep.same {H H' : Hp} (s : Same H H') : ∀ {d : D} {v : V}, Rep H d v → Rep H' d v
  | .non, v, h => by simp only [Rep] at h ⊢; exact h
  | .bl b, v, h => by simp only [Rep] at h ⊢; exact h
  | .int b, v, h => by simp only [Rep] at h ⊢; exact h
  | .str b, v, h => by simp only [Rep] at h ⊢; exact h
  | .lst ds, v, h => by simp only [Rep] at h ⊢; obtain ⟨a, vs, e, h1, h2⟩ := h; exact ⟨a, vs, e, s _ _ h1, Reps.same s h2⟩
  | .tup ds, v, h => by simp only [Rep] at h ⊢; obtain ⟨a, vs, e, h1, h2⟩ := h; exact ⟨a, vs, e, s _ _ h1, Reps.same s h2⟩
  | .dct, v, h => by simp only [Rep] at h ⊢; obtain ⟨a, vs, e, h1⟩ := h; exact ⟨a, vs, e, s _ _ h1⟩
theorem Reps.same {H H' : Hp} (s : Same H H') : ∀ {ds : List D} {vs : List V}, Reps H ds vs → Reps H' ds vs
  | [], vs, h => by simp only [Reps] at h ⊢; exact h
  | d :: ds, vs, h => by simp only [Reps] at h ⊢; obtain ⟨v, r, e, h1, h2⟩ := h; exact ⟨v, r, e, Rep.same s h1, Reps.same s h2⟩
end
mutual
theorem pyEq_refl : ∀ d : D, pyEq d d = true
  | .non => by simp [pyEq]
  | .bl b => by simp [pyEq]
  | .int b => by simp [pyEq]
  | .str b => by simp [pyEq]
  | .lst ds => by simp only [pyEq]; exact pyEqs_refl ds
  | .tup ds => by simp only [pyEq]; exact pyEqs_refl ds
  | .dct => by simp only [pyEq]
theorem pyEqs_refl : ∀ ds : List D, pyEqs ds ds = true
  | [] => by simp [pyEqs]
  | d :: ds => by simp only [pyEqs]; rw [pyEq_refl d, pyEqs_refl ds]; rfl
end
mutual
theorem Rep.inj {H : Hp} : ∀ {d e : D} {v : V}, Rep H d v → Rep H e v → d = e
  | .non, e, v, h, h' => by simp only [Rep] at h; subst h; cases e <;> simp only [Rep] at h' <;> first | rfl | (cases h'; done) | (obtain ⟨_, _, z, _⟩ := h'; cases z)
  | .bl b, e, v, h, h' => by simp only [Rep] at h; subst h; cases e <;> simp only [Rep] at h' <;> first | (cases h'; rfl) | (cases h'; done) | (obtain ⟨_, _, z, _⟩ := h'; cases z)
  | .int b, e, v, h, h' => by simp only [Rep] at h; subst h; cases e <;> simp only [Rep] at h' <;> first | (cases h'; rfl) | (cases h'; done) | (obtain ⟨_, _, z, _⟩ := h'; cases z)
  | .str b, e, v, h, h' => by simp only [Rep] at h; subst h; cases e <;> simp only [Rep] at h' <;> first | (cases h'; rfl) | (cases h'; done) | (obtain ⟨_, _, z, _⟩ := h'; cases z)
  | .lst ds, e, v, h, h' => by
    simp only [Rep] at h
    obtain ⟨a, vs, rfl, h1, h2⟩ := h
    cases e <;> simp only [Rep] at h' <;> first | (cases h'; done) | skip
    · obtain ⟨a', vs', z, h1', h2'⟩ := h'
      cases z
      rw [h1] at h1'
      cases h1'
      rw [Reps.inj h2 h2']
    · obtain ⟨a', vs', z, h1', h2'⟩ := h'
      cases z
      rw [h1] at h1'
      cases h1'
    · obtain ⟨a', vs', z, h1'⟩ := h'
      cases z
      rw [h1] at h1'
      cases h1'
  | .tup ds, e, v, h, h' => by
    simp only [Rep] at h
    obtain ⟨a, vs, rfl, h1, h2⟩ := h
    cases e <;> simp only [Rep] at h' <;> first | (cases h'; done) | skip
    · obtain ⟨a', vs', z, h1', h2'⟩ := h'
      cases z
      rw [h1] at h1'
      cases h1'
    · obtain ⟨a', vs', z, h1', h2'⟩ := h'
      cases z
      rw [h1] at h1'
      cases h1'
      rw [Reps.inj h2 h2']
    · obtain ⟨a', vs', z, h1'⟩ := h'
      cases z
      rw [h1] at h1'
      cases h1'
  | .dct, e, v, h, h' => by
    simp only [Rep] at h
    obtain ⟨a, vs, rfl, h1⟩ := h
    cases e <;> simp only [Rep] at h' <;> first | rfl | (cases h'; done) | skip
    · obtain ⟨a', vs', z, h1', h2'⟩ := h'
      cases z
      rw [h1] at h1'
      cases h1'
    · obtain ⟨a', vs', z, h1', h2'⟩ := h'
      cases z
      rw [h1] at h1'
      cases h1'
theorem Reps.inj {H : Hp} : ∀ {ds es : List D} {vs : List V}, Reps H ds vs → Reps H es vs → ds = es
  | [], es, vs, h, h' => by
    simp only [Reps] at h
    subst h
    cases es with
    | nil => rfl
    | cons e es => simp only [Reps] at h'; obtain ⟨_, _, z, _⟩ := h'; cases z
  | d :: ds, es, vs, h, h' => by
    simp only [Reps] at h
    obtain ⟨v, r, rfl, h1, h2⟩ := h
    cases es with
    | nil => simp only [Reps] at h'; cases h'
    | cons e es =>
      simp only [Reps] at h'
      obtain ⟨_, _, z, h1', h2'⟩ := h'
      cases z
      rw [Rep.inj h1 h1', Reps.inj h2 h2']
end
end L2

set_option Elab.async false
set_option linter.all false
set_option maxRecDepth 100000
set_option maxHeartbeats 4000000
namespace L2
open PySem PySem.Spec PyProof.Rows PySem.SeqAt
theorem eqAt_of_rc {A : Around} {s : Shared} {v u : Value} {b : Bool} (hf : ∀ c t, v ≠ .float c t) (hs : v = u → b = true) (h : RcAt A s v u b) : EqAt A s v u b := fun prog w E Q hq => by
  unfold eqBool
  refine wpAny_holding ?_
  refine wpAny_ite_split (fun hab => ?_) (fun _ => ?_)
  · rw [hs (eq_of_beq hab)] at hq
    exact wpAny_bind (wpAny_rule (wpAny_pure hq))
  · cases v <;> first
      | exact absurd rfl (hf _ _)
      | exact wpAny_bind (h prog w E _ (wpAny_truthy_bool hq))
theorem Rep.noflt {H : Hp} {d : D} {x : V} {v : Value} (h : Rep H d x) (r : RelV x v) : ∀ c t, v ≠ .float c t := fun c t z => by
  subst z
  cases d <;> simp only [Rep] at h
  · subst h; cases (show Value.float c t = Value.none from r)
  · subst h; cases (show Value.float c t = Value.bool _ from r)
  · subst h; obtain ⟨_, z⟩ := r; cases z
  · subst h; obtain ⟨_, z⟩ := r; cases z
  · obtain ⟨a, _, rfl, _⟩ := h; cases (show Value.float c t = Value.ref a from r)
  · obtain ⟨a, _, rfl, _⟩ := h; cases (show Value.float c t = Value.ref a from r)
  · obtain ⟨a, _, rfl, _⟩ := h; cases (show Value.float c t = Value.ref a from r)
def eqIx (ds es : List D) (j : Nat) : Bool := pyEq (ds.getD j .non) (es.getD j .non)
theorem pyEqs_range : ∀ {ds es : List D}, ds.length = es.length → (List.range ds.length).all (eqIx ds es) = pyEqs ds es
  | [], [], _ => by simp [pyEqs]
  | [], _ :: _, h => by simp at h
  | _ :: _, [], h => by simp at h
  | d :: ds, e :: es, h => by
    rw [List.length_cons, List.range_succ_eq_map, List.all_cons, List.all_map]
    have ih := pyEqs_range (ds := ds) (es := es) (by simpa using h)
    simp only [pyEqs]
    rw [← ih]
    rfl
theorem pyEqs_len : ∀ {ds es : List D}, ds.length ≠ es.length → pyEqs ds es = false
  | [], [], h => by simp at h
  | [], _ :: _, _ => by simp [pyEqs]
  | _ :: _, [], _ => by simp [pyEqs]
  | d :: ds, e :: es, h => by
    simp only [pyEqs]
    rw [pyEqs_len (ds := ds) (es := es) (by simpa using h), Bool.and_false]
theorem Reps.get {H : Hp} : ∀ {ds : List D} {vs : List V} {j : Nat}, Reps H ds vs → j < ds.length → ∃ v, vs[j]? = some v ∧ Rep H (ds.getD j .non) v
  | [], _, _, _, h => by simp at h
  | d :: ds, vs, j, h, hj => by
    simp only [Reps] at h
    obtain ⟨v, r, rfl, h1, h2⟩ := h
    cases j with
    | zero => exact ⟨v, rfl, h1⟩
    | succ j =>
      obtain ⟨w, e, h3⟩ := Reps.get h2 (show j < ds.length by simpa using hj)
      exact ⟨w, by simpa using e, h3⟩
theorem D.dep_get : ∀ (ds : List D) (j : Nat), (ds.getD j .non).dep ≤ D.deps ds
  | [], j => by simp [D.dep, D.deps]
  | d :: ds, 0 => by simp only [D.deps, List.getD_cons_zero]; omega
  | d :: ds, j + 1 => by
    have := D.dep_get ds j
    simp only [D.deps, List.getD_cons_succ]
    omega
theorem len_min_all {n m : Nat} {e : Nat → Bool} {ds es : List D} (hn : n = ds.length) (hm : m = es.length) (he : e = eqIx ds es) : ((List.range (min n m)).all e && n == m) = pyEqs ds es := by
  subst hn hm he
  by_cases h : ds.length = es.length
  · rw [h, Nat.min_self, ← h, pyEqs_range h]
    simp
  · rw [pyEqs_len h, beq_eq_false_iff_ne.mpr h, Bool.and_false]
theorem rep_rc {P : Program} {w : World} : ∀ (n : Nat) {A : Around} {s : Shared} {H : Hp} {d e : D} {x y : V} {v u : Value}, HOk P w H s.heap → d.dep ≤ n → e.dep ≤ n → n < 1000 → Rep H d x → Rep H e y → RelV x v → RelV y u → A.units + n < cLine → RcAt A s v u (pyEq d e)
  | n, A, s, H, d, e, x, y, v, u, hok, hn, hn', hlt, hd, he, rx, ry, hu => by
    have hu0 : A.units < cLine := by omega
    have items : ∀ {ds es : List D} {vs us : List V} {its its2 : List Value}, D.deps ds + 1 ≤ n → D.deps es + 1 ≤ n → Reps H ds vs → Reps H es us → Vals vs its → Vals us its2 → ∀ j (h1 : j < its.toArray.size) (h2 : j < its2.toArray.size), EqAt A.in1 s its.toArray[j] its2.toArray[j] (eqIx ds es j) := by
      intro ds es vs us its its2 hdep hdep' r1 r2 v1 v2 j h1 h2
      have l1 := r1.length
      have l2 := r2.length
      have l3 := v1.length
      have l4 := v2.length
      rw [List.size_toArray] at h1 h2
      obtain ⟨a, ea, ra⟩ := r1.get (j := j) (by omega)
      obtain ⟨b, eb, rb⟩ := r2.get (j := j) (by omega)
      obtain ⟨va, eva, rva⟩ := v1.get ea
      obtain ⟨vb, evb, rvb⟩ := v2.get eb
      have ga : its.toArray[j]'(by simpa using h1) = va := by
        rw [List.getElem?_eq_getElem h1] at eva
        simpa using Option.some.inj eva
      have gb : its2.toArray[j]'(by simpa using h2) = vb := by
        rw [List.getElem?_eq_getElem h2] at evb
        simpa using Option.some.inj evb
      rw [ga, gb]
      have hdj := D.dep_get ds j
      have hdj' := D.dep_get es j
      refine eqAt_of_rc (ra.noflt rva) (fun z => ?_) (rep_rc (n - 1) hok (by omega) (by omega) (by omega) ra rb rva rvb (by rw [Around.in1_units]; omega))
      subst z
      have := rva.inj rvb
      subst this
      have := ra.inj rb
      unfold eqIx
      rw [this]
      exact pyEq_refl _
    cases d with
    | dct => simp only [D.dep] at hn; omega
    | non =>
      simp only [Rep] at hd; subst hd
      cases (show v = Value.none from rx)
      cases e with
      | dct => simp only [D.dep] at hn'; omega
      | non => simp only [Rep] at he; subst he; cases (show u = Value.none from ry); simp only [pyEq]; exact RcAt.none_none
      | bl b => simp only [Rep] at he; subst he; cases (show u = Value.bool b from ry); simp only [pyEq]; exact RcAt.none_bool _
      | int b => simp only [Rep] at he; subst he; obtain ⟨t, rfl⟩ := ry; simp only [pyEq]; exact RcAt.none_int _ _
      | str b => simp only [Rep] at he; subst he; obtain ⟨t, rfl⟩ := ry; simp only [pyEq]; exact RcAt.none_str _ _
      | lst ds => simp only [Rep] at he; obtain ⟨a, vs, rfl, h1, h2⟩ := he; cases (show u = Value.ref a from ry); obtain ⟨_, its, k, _, h3⟩ := (show ObjOk P w H s.heap a (.lst vs) from hok a _ h1); simp only [pyEq]; exact RcAt.none_list (items := its.toArray) ⟨_, h3, rfl, k, rfl⟩ hu0
      | tup ds => simp only [Rep] at he; obtain ⟨a, vs, rfl, h1, h2⟩ := he; cases (show u = Value.ref a from ry); obtain ⟨_, its, _, h3⟩ := (show ObjOk P w H s.heap a (.tup vs) from hok a _ h1); simp only [pyEq]; exact RcAt.none_tuple h3 hu0
    | bl c =>
      simp only [Rep] at hd; subst hd
      cases (show v = Value.bool c from rx)
      cases e with
      | dct => simp only [D.dep] at hn'; omega
      | non => simp only [Rep] at he; subst he; cases (show u = Value.none from ry); simp only [pyEq]; exact RcAt.bool_none _
      | bl b => simp only [Rep] at he; subst he; cases (show u = Value.bool b from ry); simp only [pyEq]; exact RcAt.bool_bool _ _
      | int b => simp only [Rep] at he; subst he; obtain ⟨t, rfl⟩ := ry; simp only [pyEq]; exact RcAt.bool_int _ _ _
      | str b => simp only [Rep] at he; subst he; obtain ⟨t, rfl⟩ := ry; simp only [pyEq]; exact RcAt.bool_str _ _ _
      | lst ds => simp only [Rep] at he; obtain ⟨a, vs, rfl, h1, h2⟩ := he; cases (show u = Value.ref a from ry); obtain ⟨_, its, k, _, h3⟩ := (show ObjOk P w H s.heap a (.lst vs) from hok a _ h1); simp only [pyEq]; exact RcAt.bool_list (items := its.toArray) _ ⟨_, h3, rfl, k, rfl⟩ hu0
      | tup ds => simp only [Rep] at he; obtain ⟨a, vs, rfl, h1, h2⟩ := he; cases (show u = Value.ref a from ry); obtain ⟨_, its, _, h3⟩ := (show ObjOk P w H s.heap a (.tup vs) from hok a _ h1); simp only [pyEq]; exact RcAt.bool_tuple _ h3 hu0
    | int c =>
      simp only [Rep] at hd; subst hd
      obtain ⟨t', rfl⟩ := rx
      cases e with
      | dct => simp only [D.dep] at hn'; omega
      | non => simp only [Rep] at he; subst he; cases (show u = Value.none from ry); simp only [pyEq]; exact RcAt.int_none _ _
      | bl b => simp only [Rep] at he; subst he; cases (show u = Value.bool b from ry); simp only [pyEq]; exact RcAt.int_bool _ _ _
      | int b => simp only [Rep] at he; subst he; obtain ⟨t, rfl⟩ := ry; simp only [pyEq]; exact RcAt.int_int _ _ _ _
      | str b => simp only [Rep] at he; subst he; obtain ⟨t, rfl⟩ := ry; simp only [pyEq]; exact RcAt.int_str _ _ _ _
      | lst ds => simp only [Rep] at he; obtain ⟨a, vs, rfl, h1, h2⟩ := he; cases (show u = Value.ref a from ry); obtain ⟨_, its, k, _, h3⟩ := (show ObjOk P w H s.heap a (.lst vs) from hok a _ h1); simp only [pyEq]; exact RcAt.int_list (items := its.toArray) _ _ ⟨_, h3, rfl, k, rfl⟩ hu0
      | tup ds => simp only [Rep] at he; obtain ⟨a, vs, rfl, h1, h2⟩ := he; cases (show u = Value.ref a from ry); obtain ⟨_, its, _, h3⟩ := (show ObjOk P w H s.heap a (.tup vs) from hok a _ h1); simp only [pyEq]; exact RcAt.int_tuple _ _ h3 hu0
    | str c =>
      simp only [Rep] at hd; subst hd
      obtain ⟨t', rfl⟩ := rx
      cases e with
      | dct => simp only [D.dep] at hn'; omega
      | non => simp only [Rep] at he; subst he; cases (show u = Value.none from ry); simp only [pyEq]; exact RcAt.str_none _ _
      | bl b => simp only [Rep] at he; subst he; cases (show u = Value.bool b from ry); simp only [pyEq]; exact RcAt.str_bool _ _ _
      | int b => simp only [Rep] at he; subst he; obtain ⟨t, rfl⟩ := ry; simp only [pyEq]; exact RcAt.str_int _ _ _ _
      | str b => simp only [Rep] at he; subst he; obtain ⟨t, rfl⟩ := ry; simp only [pyEq]; exact RcAt.str_str _ _ _ _
      | lst ds => simp only [Rep] at he; obtain ⟨a, vs, rfl, h1, h2⟩ := he; cases (show u = Value.ref a from ry); obtain ⟨_, its, k, _, h3⟩ := (show ObjOk P w H s.heap a (.lst vs) from hok a _ h1); simp only [pyEq]; exact RcAt.str_list (items := its.toArray) _ _ ⟨_, h3, rfl, k, rfl⟩ hu0
      | tup ds => simp only [Rep] at he; obtain ⟨a, vs, rfl, h1, h2⟩ := he; cases (show u = Value.ref a from ry); obtain ⟨_, its, _, h3⟩ := (show ObjOk P w H s.heap a (.tup vs) from hok a _ h1); simp only [pyEq]; exact RcAt.str_tuple _ _ h3 hu0
    | lst cs =>
      simp only [Rep] at hd
      obtain ⟨b, ws, rfl, g1, g2⟩ := hd
      cases (show v = Value.ref b from rx)
      obtain ⟨_, jts, m, g4, g3⟩ := (show ObjOk P w H s.heap b (.lst ws) from hok b _ g1)
      have gl : s.heap.IsList b jts.toArray := ⟨_, g3, rfl, m, rfl⟩
      cases e with
      | dct => simp only [D.dep] at hn'; omega
      | non => simp only [Rep] at he; subst he; cases (show u = Value.none from ry); simp only [pyEq]; exact RcAt.list_none gl hu0
      | bl b => simp only [Rep] at he; subst he; cases (show u = Value.bool b from ry); simp only [pyEq]; exact RcAt.list_bool _ gl hu0
      | int b => simp only [Rep] at he; subst he; obtain ⟨t, rfl⟩ := ry; simp only [pyEq]; exact RcAt.list_int _ _ gl hu0
      | str b => simp only [Rep] at he; subst he; obtain ⟨t, rfl⟩ := ry; simp only [pyEq]; exact RcAt.list_str _ _ gl hu0
      | lst ds =>
        simp only [Rep] at he
        obtain ⟨a, vs, rfl, h1, h2⟩ := he
        cases (show u = Value.ref a from ry)
        obtain ⟨_, its, k, h4, h3⟩ := (show ObjOk P w H s.heap a (.lst vs) from hok a _ h1)
        simp only [pyEq]
        have l1 := g2.length
        have l2 := h2.length
        have l3 := g4.length
        have l4 := h4.length
        by_cases hl : cs.length = ds.length
        · rw [← pyEqs_range hl]
          have e1 : cs.length = jts.toArray.size := by rw [List.size_toArray]; omega
          rw [e1]
          exact RcAt.lists gl ⟨_, h3, rfl, k, rfl⟩ (by rw [List.size_toArray, List.size_toArray]; omega) hu0 (items (by simp only [D.dep] at hn; omega) (by simp only [D.dep] at hn'; omega) g2 h2 g4 h4)
        · rw [pyEqs_len hl]
          exact RcAt.lists_lengths (items2 := its.toArray) gl ⟨_, h3, rfl, k, rfl⟩ (by rw [List.size_toArray, List.size_toArray]; exact bne_iff_ne.mpr (by omega)) hu0
      | tup ds => simp only [Rep] at he; obtain ⟨a, vs, rfl, h1, h2⟩ := he; cases (show u = Value.ref a from ry); obtain ⟨_, its, _, h3⟩ := (show ObjOk P w H s.heap a (.tup vs) from hok a _ h1); simp only [pyEq]; exact RcAt.list_tuple gl h3 hu0
    | tup cs =>
      simp only [Rep] at hd
      obtain ⟨b, ws, rfl, g1, g2⟩ := hd
      cases (show v = Value.ref b from rx)
      obtain ⟨_, jts, g4, gl⟩ := (show ObjOk P w H s.heap b (.tup ws) from hok b _ g1)
      cases e with
      | dct => simp only [D.dep] at hn'; omega
      | non => simp only [Rep] at he; subst he; cases (show u = Value.none from ry); simp only [pyEq]; exact RcAt.tuple_none gl hu0
      | bl b => simp only [Rep] at he; subst he; cases (show u = Value.bool b from ry); simp only [pyEq]; exact RcAt.tuple_bool _ gl hu0
      | int b => simp only [Rep] at he; subst he; obtain ⟨t, rfl⟩ := ry; simp only [pyEq]; exact RcAt.tuple_int _ _ gl hu0
      | str b => simp only [Rep] at he; subst he; obtain ⟨t, rfl⟩ := ry; simp only [pyEq]; exact RcAt.tuple_str _ _ gl hu0
      | lst ds => simp only [Rep] at he; obtain ⟨a, vs, rfl, h1, h2⟩ := he; cases (show u = Value.ref a from ry); obtain ⟨_, its, k, _, h3⟩ := (show ObjOk P w H s.heap a (.lst vs) from hok a _ h1); simp only [pyEq]; exact RcAt.tuple_list (items2 := its.toArray) gl ⟨_, h3, rfl, k, rfl⟩ hu0
      | tup ds =>
        simp only [Rep] at he
        obtain ⟨a, vs, rfl, h1, h2⟩ := he
        cases (show u = Value.ref a from ry)
        obtain ⟨_, its, h4, h3⟩ := (show ObjOk P w H s.heap a (.tup vs) from hok a _ h1)
        simp only [pyEq]
        have l1 := g2.length
        have l2 := h2.length
        have l3 := g4.length
        have l4 := h4.length
        rw [← len_min_all (n := jts.toArray.size) (m := its.toArray.size) (by rw [List.size_toArray]; omega) (by rw [List.size_toArray]; omega) rfl]
        exact RcAt.tuples gl h3 hu0 (items (by simp only [D.dep] at hn; omega) (by simp only [D.dep] at hn'; omega) g2 h2 g4 h4)
termination_by n => n
decreasing_by all_goals simp_wf; omega
theorem rep_rcne {P : Program} {w : World} : ∀ (n : Nat) {A : Around} {s : Shared} {H : Hp} {d e : D} {x y : V} {v u : Value}, HOk P w H s.heap → d.dep ≤ n → e.dep ≤ n → n < 1000 → Rep H d x → Rep H e y → RelV x v → RelV y u → A.units + n < cLine → RcNeAt A s v u (!pyEq d e)
  | n, A, s, H, d, e, x, y, v, u, hok, hn, hn', hlt, hd, he, rx, ry, hu => by
    have hu0 : A.units < cLine := by omega
    have items : ∀ {ds es : List D} {vs us : List V} {its its2 : List Value}, D.deps ds + 1 ≤ n → D.deps es + 1 ≤ n → Reps H ds vs → Reps H es us → Vals vs its → Vals us its2 → ∀ j (h1 : j < its.toArray.size) (h2 : j < its2.toArray.size), EqAt A.in1 s its.toArray[j] its2.toArray[j] (eqIx ds es j) := by
      intro ds es vs us its its2 hdep hdep' r1 r2 v1 v2 j h1 h2
      have l1 := r1.length
      have l2 := r2.length
      have l3 := v1.length
      have l4 := v2.length
      rw [List.size_toArray] at h1 h2
      obtain ⟨a, ea, ra⟩ := r1.get (j := j) (by omega)
      obtain ⟨b, eb, rb⟩ := r2.get (j := j) (by omega)
      obtain ⟨va, eva, rva⟩ := v1.get ea
      obtain ⟨vb, evb, rvb⟩ := v2.get eb
      have ga : its.toArray[j]'(by simpa using h1) = va := by
        rw [List.getElem?_eq_getElem h1] at eva
        simpa using Option.some.inj eva
      have gb : its2.toArray[j]'(by simpa using h2) = vb := by
        rw [List.getElem?_eq_getElem h2] at evb
        simpa using Option.some.inj evb
      rw [ga, gb]
      have hdj := D.dep_get ds j
      have hdj' := D.dep_get es j
      refine eqAt_of_rc (ra.noflt rva) (fun z => ?_) (rep_rc (n - 1) hok (by omega) (by omega) (by omega) ra rb rva rvb (by rw [Around.in1_units]; omega))
      subst z
      have := rva.inj rvb
      subst this
      have := ra.inj rb
      unfold eqIx
      rw [this]
      exact pyEq_refl _
    cases d with
    | dct => simp only [D.dep] at hn; omega
    | non =>
      simp only [Rep] at hd; subst hd
      cases (show v = Value.none from rx)
      cases e with
      | dct => simp only [D.dep] at hn'; omega
      | non => simp only [Rep] at he; subst he; cases (show u = Value.none from ry); simp only [pyEq]; exact RcNeAt.none_none
      | bl b => simp only [Rep] at he; subst he; cases (show u = Value.bool b from ry); simp only [pyEq]; exact RcNeAt.none_bool _
      | int b => simp only [Rep] at he; subst he; obtain ⟨t, rfl⟩ := ry; simp only [pyEq]; exact RcNeAt.none_int _ _
      | str b => simp only [Rep] at he; subst he; obtain ⟨t, rfl⟩ := ry; simp only [pyEq]; exact RcNeAt.none_str _ _
      | lst ds => simp only [Rep] at he; obtain ⟨a, vs, rfl, h1, h2⟩ := he; cases (show u = Value.ref a from ry); obtain ⟨_, its, k, _, h3⟩ := (show ObjOk P w H s.heap a (.lst vs) from hok a _ h1); simp only [pyEq]; exact RcNeAt.none_list (items := its.toArray) ⟨_, h3, rfl, k, rfl⟩ hu0
      | tup ds => simp only [Rep] at he; obtain ⟨a, vs, rfl, h1, h2⟩ := he; cases (show u = Value.ref a from ry); obtain ⟨_, its, _, h3⟩ := (show ObjOk P w H s.heap a (.tup vs) from hok a _ h1); simp only [pyEq]; exact RcNeAt.none_tuple h3 hu0
    | bl c =>
      simp only [Rep] at hd; subst hd
      cases (show v = Value.bool c from rx)
      cases e with
      | dct => simp only [D.dep] at hn'; omega
      | non => simp only [Rep] at he; subst he; cases (show u = Value.none from ry); simp only [pyEq]; exact RcNeAt.bool_none _
      | bl b => simp only [Rep] at he; subst he; cases (show u = Value.bool b from ry); simp only [pyEq]; exact RcNeAt.bool_bool _ _
      | int b => simp only [Rep] at he; subst he; obtain ⟨t, rfl⟩ := ry; simp only [pyEq]; exact RcNeAt.bool_int _ _ _
      | str b => simp only [Rep] at he; subst he; obtain ⟨t, rfl⟩ := ry; simp only [pyEq]; exact RcNeAt.bool_str _ _ _
      | lst ds => simp only [Rep] at he; obtain ⟨a, vs, rfl, h1, h2⟩ := he; cases (show u = Value.ref a from ry); obtain ⟨_, its, k, _, h3⟩ := (show ObjOk P w H s.heap a (.lst vs) from hok a _ h1); simp only [pyEq]; exact RcNeAt.bool_list (items := its.toArray) _ ⟨_, h3, rfl, k, rfl⟩ hu0
      | tup ds => simp only [Rep] at he; obtain ⟨a, vs, rfl, h1, h2⟩ := he; cases (show u = Value.ref a from ry); obtain ⟨_, its, _, h3⟩ := (show ObjOk P w H s.heap a (.tup vs) from hok a _ h1); simp only [pyEq]; exact RcNeAt.bool_tuple _ h3 hu0
    | int c =>
      simp only [Rep] at hd; subst hd
      obtain ⟨t', rfl⟩ := rx
      cases e with
      | dct => simp only [D.dep] at hn'; omega
      | non => simp only [Rep] at he; subst he; cases (show u = Value.none from ry); simp only [pyEq]; exact RcNeAt.int_none _ _
      | bl b => simp only [Rep] at he; subst he; cases (show u = Value.bool b from ry); simp only [pyEq]; exact RcNeAt.int_bool _ _ _
      | int b => simp only [Rep] at he; subst he; obtain ⟨t, rfl⟩ := ry; simp only [pyEq]; exact RcNeAt.int_int _ _ _ _
      | str b => simp only [Rep] at he; subst he; obtain ⟨t, rfl⟩ := ry; simp only [pyEq]; exact RcNeAt.int_str _ _ _ _
      | lst ds => simp only [Rep] at he; obtain ⟨a, vs, rfl, h1, h2⟩ := he; cases (show u = Value.ref a from ry); obtain ⟨_, its, k, _, h3⟩ := (show ObjOk P w H s.heap a (.lst vs) from hok a _ h1); simp only [pyEq]; exact RcNeAt.int_list (items := its.toArray) _ _ ⟨_, h3, rfl, k, rfl⟩ hu0
      | tup ds => simp only [Rep] at he; obtain ⟨a, vs, rfl, h1, h2⟩ := he; cases (show u = Value.ref a from ry); obtain ⟨_, its, _, h3⟩ := (show ObjOk P w H s.heap a (.tup vs) from hok a _ h1); simp only [pyEq]; exact RcNeAt.int_tuple _ _ h3 hu0
    | str c =>
      simp only [Rep] at hd; subst hd
      obtain ⟨t', rfl⟩ := rx
      cases e with
      | dct => simp only [D.dep] at hn'; omega
      | non => simp only [Rep] at he; subst he; cases (show u = Value.none from ry); simp only [pyEq]; exact RcNeAt.str_none _ _
      | bl b => simp only [Rep] at he; subst he; cases (show u = Value.bool b from ry); simp only [pyEq]; exact RcNeAt.str_bool _ _ _
      | int b => simp only [Rep] at he; subst he; obtain ⟨t, rfl⟩ := ry; simp only [pyEq]; exact RcNeAt.str_int _ _ _ _
      | str b => simp only [Rep] at he; subst he; obtain ⟨t, rfl⟩ := ry; simp only [pyEq]; exact RcNeAt.str_str _ _ _ _
      | lst ds => simp only [Rep] at he; obtain ⟨a, vs, rfl, h1, h2⟩ := he; cases (show u = Value.ref a from ry); obtain ⟨_, its, k, _, h3⟩ := (show ObjOk P w H s.heap a (.lst vs) from hok a _ h1); simp only [pyEq]; exact RcNeAt.str_list (items := its.toArray) _ _ ⟨_, h3, rfl, k, rfl⟩ hu0
      | tup ds => simp only [Rep] at he; obtain ⟨a, vs, rfl, h1, h2⟩ := he; cases (show u = Value.ref a from ry); obtain ⟨_, its, _, h3⟩ := (show ObjOk P w H s.heap a (.tup vs) from hok a _ h1); simp only [pyEq]; exact RcNeAt.str_tuple _ _ h3 hu0
    | lst cs =>
      simp only [Rep] at hd
      obtain ⟨b, ws, rfl, g1, g2⟩ := hd
      cases (show v = Value.ref b from rx)
      obtain ⟨_, jts, m, g4, g3⟩ := (show ObjOk P w H s.heap b (.lst ws) from hok b _ g1)
      have gl : s.heap.IsList b jts.toArray := ⟨_, g3, rfl, m, rfl⟩
      cases e with
      | dct => simp only [D.dep] at hn'; omega
      | non => simp only [Rep] at he; subst he; cases (show u = Value.none from ry); simp only [pyEq]; exact RcNeAt.list_none gl hu0
      | bl b => simp only [Rep] at he; subst he; cases (show u = Value.bool b from ry); simp only [pyEq]; exact RcNeAt.list_bool _ gl hu0
      | int b => simp only [Rep] at he; subst he; obtain ⟨t, rfl⟩ := ry; simp only [pyEq]; exact RcNeAt.list_int _ _ gl hu0
      | str b => simp only [Rep] at he; subst he; obtain ⟨t, rfl⟩ := ry; simp only [pyEq]; exact RcNeAt.list_str _ _ gl hu0
      | lst ds =>
        simp only [Rep] at he
        obtain ⟨a, vs, rfl, h1, h2⟩ := he
        cases (show u = Value.ref a from ry)
        obtain ⟨_, its, k, h4, h3⟩ := (show ObjOk P w H s.heap a (.lst vs) from hok a _ h1)
        simp only [pyEq]
        have l1 := g2.length
        have l2 := h2.length
        have l3 := g4.length
        have l4 := h4.length
        by_cases hl : cs.length = ds.length
        · rw [← pyEqs_range hl]
          have e1 : cs.length = jts.toArray.size := by rw [List.size_toArray]; omega
          rw [e1]
          exact RcNeAt.lists gl ⟨_, h3, rfl, k, rfl⟩ (by rw [List.size_toArray, List.size_toArray]; omega) hu0 (items (by simp only [D.dep] at hn; omega) (by simp only [D.dep] at hn'; omega) g2 h2 g4 h4)
        · rw [pyEqs_len hl]
          exact RcNeAt.lists_lengths (items2 := its.toArray) gl ⟨_, h3, rfl, k, rfl⟩ (by rw [List.size_toArray, List.size_toArray]; exact bne_iff_ne.mpr (by omega)) hu0
      | tup ds => simp only [Rep] at he; obtain ⟨a, vs, rfl, h1, h2⟩ := he; cases (show u = Value.ref a from ry); obtain ⟨_, its, _, h3⟩ := (show ObjOk P w H s.heap a (.tup vs) from hok a _ h1); simp only [pyEq]; exact RcNeAt.list_tuple gl h3 hu0
    | tup cs =>
      simp only [Rep] at hd
      obtain ⟨b, ws, rfl, g1, g2⟩ := hd
      cases (show v = Value.ref b from rx)
      obtain ⟨_, jts, g4, gl⟩ := (show ObjOk P w H s.heap b (.tup ws) from hok b _ g1)
      cases e with
      | dct => simp only [D.dep] at hn'; omega
      | non => simp only [Rep] at he; subst he; cases (show u = Value.none from ry); simp only [pyEq]; exact RcNeAt.tuple_none gl hu0
      | bl b => simp only [Rep] at he; subst he; cases (show u = Value.bool b from ry); simp only [pyEq]; exact RcNeAt.tuple_bool _ gl hu0
      | int b => simp only [Rep] at he; subst he; obtain ⟨t, rfl⟩ := ry; simp only [pyEq]; exact RcNeAt.tuple_int _ _ gl hu0
      | str b => simp only [Rep] at he; subst he; obtain ⟨t, rfl⟩ := ry; simp only [pyEq]; exact RcNeAt.tuple_str _ _ gl hu0
      | lst ds => simp only [Rep] at he; obtain ⟨a, vs, rfl, h1, h2⟩ := he; cases (show u = Value.ref a from ry); obtain ⟨_, its, k, _, h3⟩ := (show ObjOk P w H s.heap a (.lst vs) from hok a _ h1); simp only [pyEq]; exact RcNeAt.tuple_list (items2 := its.toArray) gl ⟨_, h3, rfl, k, rfl⟩ hu0
      | tup ds =>
        simp only [Rep] at he
        obtain ⟨a, vs, rfl, h1, h2⟩ := he
        cases (show u = Value.ref a from ry)
        obtain ⟨_, its, h4, h3⟩ := (show ObjOk P w H s.heap a (.tup vs) from hok a _ h1)
        simp only [pyEq]
        have l1 := g2.length
        have l2 := h2.length
        have l3 := g4.length
        have l4 := h4.length
        rw [← len_min_all (n := jts.toArray.size) (m := its.toArray.size) (by rw [List.size_toArray]; omega) (by rw [List.size_toArray]; omega) rfl]
        exact RcNeAt.tuples gl h3 hu0 (items (by simp only [D.dep] at hn; omega) (by simp only [D.dep] at hn'; omega) g2 h2 g4 h4)
section
variable {X : Cx}
/-- == and != of plain data -/
def rEqD : R2 := fun x y H Q => ∃ d e, Rep H d x ∧ Rep H e y ∧ d.dep ≤ 100 ∧ e.dep ≤ 100 ∧ Q (.bl (pyEq d e)) H
def rNeD : R2 := fun x y H Q => ∃ d e, Rep H d x ∧ Rep H e y ∧ d.dep ≤ 100 ∧ e.dep ≤ 100 ∧ Q (.bl (!pyEq d e)) H
theorem o_eqD (hu : X.A.units + 100 < cLine) : OpR X (compareOp .Eq) rEqD := by
  intro pins s σ H x y v u Q I rx ry h
  obtain ⟨d, e, hd, he, hn, hn', q⟩ := h
  show wpAny _ _ (richCompare .Eq _ _) _ _ s
  exact rep_rc 100 I.hok hn hn' (by decide) hd he rx ry hu _ _ _ _ ⟨.bl (pyEq d e), H, I, rfl, q⟩
theorem o_neD (hu : X.A.units + 100 < cLine) : OpR X (compareOp .NotEq) rNeD := by
  intro pins s σ H x y v u Q I rx ry h
  obtain ⟨d, e, hd, he, hn, hn', q⟩ := h
  show wpAny _ _ (richCompare .NotEq _ _) _ _ s
  exact rep_rcne 100 I.hok hn hn' (by decide) hd he rx ry hu _ _ _ _ ⟨.bl (!pyEq d e), H, I, rfl, q⟩
end
end L2

set_option Elab.async false
set_option linter.all false
set_option maxRecDepth 100000
set_option maxHeartbeats 4000000
namespace L2
open PySem PySem.Spec PyProof.Rows
/-! ### what kind a thing is -/
theorem kit_non_str (K : PySem.W.Frag) : PySem.W.kitOne K (.type "NoneType") (.type "str") = some false := by kernel_rfl
theorem kit_non_int (K : PySem.W.Frag) : PySem.W.kitOne K (.type "NoneType") (.type "int") = some false := by kernel_rfl
theorem kit_non_bool (K : PySem.W.Frag) : PySem.W.kitOne K (.type "NoneType") (.type "bool") = some false := by kernel_rfl
theorem kit_non_tuple (K : PySem.W.Frag) : PySem.W.kitOne K (.type "NoneType") (.type "tuple") = some false := by kernel_rfl
theorem kit_non_list (K : PySem.W.Frag) : PySem.W.kitOne K (.type "NoneType") (.type "list") = some false := by kernel_rfl
theorem kit_non_dict (K : PySem.W.Frag) : PySem.W.kitOne K (.type "NoneType") (.type "dict") = some false := by kernel_rfl
theorem kit_bl_str (K : PySem.W.Frag) : PySem.W.kitOne K (.type "bool") (.type "str") = some false := by kernel_rfl
theorem kit_bl_int (K : PySem.W.Frag) : PySem.W.kitOne K (.type "bool") (.type "int") = some true := by kernel_rfl
theorem kit_bl_bool (K : PySem.W.Frag) : PySem.W.kitOne K (.type "bool") (.type "bool") = some true := by kernel_rfl
theorem kit_bl_tuple (K : PySem.W.Frag) : PySem.W.kitOne K (.type "bool") (.type "tuple") = some false := by kernel_rfl
theorem kit_bl_list (K : PySem.W.Frag) : PySem.W.kitOne K (.type "bool") (.type "list") = some false := by kernel_rfl
theorem kit_bl_dict (K : PySem.W.Frag) : PySem.W.kitOne K (.type "bool") (.type "dict") = some false := by kernel_rfl
theorem kit_int_str (K : PySem.W.Frag) : PySem.W.kitOne K (.type "int") (.type "str") = some false := by kernel_rfl
theorem kit_int_int (K : PySem.W.Frag) : PySem.W.kitOne K (.type "int") (.type "int") = some true := by kernel_rfl
theorem kit_int_bool (K : PySem.W.Frag) : PySem.W.kitOne K (.type "int") (.type "bool") = some false := by kernel_rfl
theorem kit_int_tuple (K : PySem.W.Frag) : PySem.W.kitOne K (.type "int") (.type "tuple") = some false := by kernel_rfl
theorem kit_int_list (K : PySem.W.Frag) : PySem.W.kitOne K (.type "int") (.type "list") = some false := by kernel_rfl
theorem kit_int_dict (K : PySem.W.Frag) : PySem.W.kitOne K (.type "int") (.type "dict") = some false := by kernel_rfl
theorem kit_str_str (K : PySem.W.Frag) : PySem.W.kitOne K (.type "str") (.type "str") = some true := by kernel_rfl
theorem kit_str_int (K : PySem.W.Frag) : PySem.W.kitOne K (.type "str") (.type "int") = some false := by kernel_rfl
theorem kit_str_bool (K : PySem.W.Frag) : PySem.W.kitOne K (.type "str") (.type "bool") = some false := by kernel_rfl
theorem kit_str_tuple (K : PySem.W.Frag) : PySem.W.kitOne K (.type "str") (.type "tuple") = some false := by kernel_rfl
theorem kit_str_list (K : PySem.W.Frag) : PySem.W.kitOne K (.type "str") (.type "list") = some false := by kernel_rfl
theorem kit_str_dict (K : PySem.W.Frag) : PySem.W.kitOne K (.type "str") (.type "dict") = some false := by kernel_rfl
theorem kit_lst_str (K : PySem.W.Frag) : PySem.W.kitOne K (.type "list") (.type "str") = some false := by kernel_rfl
theorem kit_lst_int (K : PySem.W.Frag) : PySem.W.kitOne K (.type "list") (.type "int") = some false := by kernel_rfl
theorem kit_lst_bool (K : PySem.W.Frag) : PySem.W.kitOne K (.type "list") (.type "bool") = some false := by kernel_rfl
theorem kit_lst_tuple (K : PySem.W.Frag) : PySem.W.kitOne K (.type "list") (.type "tuple") = some false := by kernel_rfl
theorem kit_lst_list (K : PySem.W.Frag) : PySem.W.kitOne K (.type "list") (.type "list") = some true := by kernel_rfl
theorem kit_lst_dict (K : PySem.W.Frag) : PySem.W.kitOne K (.type "list") (.type "dict") = some false := by kernel_rfl
theorem kit_tup_str (K : PySem.W.Frag) : PySem.W.kitOne K (.type "tuple") (.type "str") = some false := by kernel_rfl
theorem kit_tup_int (K : PySem.W.Frag) : PySem.W.kitOne K (.type "tuple") (.type "int") = some false := by kernel_rfl
theorem kit_tup_bool (K : PySem.W.Frag) : PySem.W.kitOne K (.type "tuple") (.type "bool") = some false := by kernel_rfl
theorem kit_tup_tuple (K : PySem.W.Frag) : PySem.W.kitOne K (.type "tuple") (.type "tuple") = some true := by kernel_rfl
theorem kit_tup_list (K : PySem.W.Frag) : PySem.W.kitOne K (.type "tuple") (.type "list") = some false := by kernel_rfl
theorem kit_tup_dict (K : PySem.W.Frag) : PySem.W.kitOne K (.type "tuple") (.type "dict") = some false := by kernel_rfl
theorem kit_dK_str (K : PySem.W.Frag) : PySem.W.kitOne K (.type "dict") (.type "str") = some false := by kernel_rfl
theorem kit_dK_int (K : PySem.W.Frag) : PySem.W.kitOne K (.type "dict") (.type "int") = some false := by kernel_rfl
theorem kit_dK_bool (K : PySem.W.Frag) : PySem.W.kitOne K (.type "dict") (.type "bool") = some false := by kernel_rfl
theorem kit_dK_tuple (K : PySem.W.Frag) : PySem.W.kitOne K (.type "dict") (.type "tuple") = some false := by kernel_rfl
theorem kit_dK_list (K : PySem.W.Frag) : PySem.W.kitOne K (.type "dict") (.type "list") = some false := by kernel_rfl
theorem kit_dK_dict (K : PySem.W.Frag) : PySem.W.kitOne K (.type "dict") (.type "dict") = some true := by kernel_rfl

section
variable {X : Cx} {K : PySem.W.Frag} {σ : St} {H : Hp} {D : Ends} {Q : VK} {E : XK}
def rIs (K : PySem.W.Frag) : List V → Hp → VK → Prop := fun xs H Q => ∃ x T t b, xs = [x, .ty T] ∧ TyOf K H x t ∧ PySem.W.kitOne K t (.type T) = some b ∧ Q (.bl b) H
theorem rd_is {x : V} {T : String} {t : Value} {b : Bool} (ty : TyOf K H x t) (hk : PySem.W.kitOne K t (.type T) = some b) (h : Q (.bl b) H) : rIs K [x, .ty T] H Q := ⟨x, T, t, b, rfl, ty, hk, h⟩
def rLen (K : PySem.W.Frag) : List V → Hp → VK → Prop := fun xs H Q => ∃ x n, xs = [x] ∧ LenV K x H n ∧ Q (.int n) H
theorem c_len : CallR X (.builtin "len") (rLen X.K) := call_len
theorem rd_lenS {z : Str} (hz : z.length ≤ sizeLine) (h : Q (.int z.length) H) : rLen K [.str z] H Q := ⟨_, _, rfl, ⟨hz, rfl⟩, h⟩
theorem rd_lenL {a : Addr} {xs : List V} (e : SqL K H a xs) (h : Q (.int xs.length) H) : rLen K [.ref a] H Q := ⟨_, _, rfl, .inl ⟨xs, e, rfl⟩, h⟩
theorem rd_lenT {a : Addr} {xs : List V} (e : SqT K H a xs) (h : Q (.int xs.length) H) : rLen K [.ref a] H Q := ⟨_, _, rfl, .inr ⟨xs, e, rfl⟩, h⟩
def rMax : List V → Hp → VK → Prop := fun xs H Q => ∃ i j, xs = [.int i, .int j] ∧ Q (.int (max i j)) H
def rMin : List V → Hp → VK → Prop := fun xs H Q => ∃ i j, xs = [.int i, .int j] ∧ Q (.int (min i j)) H
theorem rd_max {i j : Int} (h : Q (.int (max i j)) H) : rMax [.int i, .int j] H Q := ⟨i, j, rfl, h⟩
theorem rd_min {i j : Int} (h : Q (.int (min i j)) H) : rMin [.int i, .int j] H Q := ⟨i, j, rfl, h⟩
def rStrI : List V → Hp → VK → Prop := fun xs H Q => ∃ i, xs = [.int i] ∧ i.natAbs.log2 < 1920 ∧ Q (.str (toString i)) H
theorem c_str : CallR X (.type "str") rStrI := call_str_int
theorem rd_str {i : Int} (hz : i.natAbs.log2 < 1920) (h : Q (.str (toString i)) H) : rStrI [.int i] H Q := ⟨i, rfl, hz, h⟩
/-! the frame of statements and tests -/
theorem rd_call {sp : Sp} {t : TA} (h : t σ H fun vs H1 => sp vs H1 Q E) : tCall sp [] E t σ H Q := by
  unfold tCall
  simp only [List.append_nil]
  exact h
def mkT (xs : List V) (H : Hp) (Q : VK) : Prop := xs.length ≤ sizeLine ∧ ∀ p H1, Same H H1 → H1 p = some (.tup xs) → Q (.ref p) H1
def mkL (xs : List V) (H : Hp) (Q : VK) : Prop := xs.length ≤ sizeLine ∧ ∀ p H1, H p = none → Same H H1 → H1 p = some (.lst xs) → Q (.ref p) H1
def tTupM (t : TA) : TE := fun σ H Q => t σ H fun xs H1 => mkT xs H1 Q
def tLstM (t : TA) : TE := fun σ H Q => t σ H fun xs H1 => mkL xs H1 Q
theorem pe_lstM {es : List Expr} {t : TA} {pos : Pos} (h : PA X es t) : PE X (.List es pos) (tLstM t) := fun pins s σ H Q I hq =>
  wpAny_List_spliced (thn (h pos pins s σ H _ I hq) fun us s1 ⟨xs, H1, I1, r, z, q⟩ => by
    have hf : H1 s1.heap.objs.size = none := I1.fresh
    exact ⟨r.length ▸ z, .ref s1.heap.objs.size, _, I1.laid (o := .lst xs) (t' := s1.toks) (fun b u => Heap.get?_push_of_some _) (Nat.le_refl _) ⟨z, us, 0, r, Heap.get?_push_size _ rfl⟩, rfl, q _ _ hf (same_new hf) upd_same⟩)
theorem rd_mkT {xs : List V} (hz : xs.length ≤ sizeLine) (h : ∀ p H1, Same H H1 → H1 p = some (.tup xs) → Q (.ref p) H1) : mkT xs H Q := ⟨hz, h⟩
theorem rd_mkL {xs : List V} (hz : xs.length ≤ sizeLine) (h : ∀ p H1, H p = none → Same H H1 → H1 p = some (.lst xs) → Q (.ref p) H1) : mkL xs H Q := ⟨hz, h⟩
/-! places and slices -/
theorem rd_ixL {a : Addr} {xs : List V} {i : Int} {v : V} (e : SqL K H a xs) (g : atI xs i = some v) (h : Q v H) : rIx K (.ref a) (.int i) H Q := .inl ⟨a, xs, i, v, rfl, rfl, e, g, h⟩
theorem rd_ixT {a : Addr} {xs : List V} {i : Int} {v : V} (e : SqT K H a xs) (g : atI xs i = some v) (h : Q v H) : rIx K (.ref a) (.int i) H Q := .inr (.inl ⟨a, xs, i, v, rfl, rfl, e, g, h⟩)
def Menu : List V → Int → Int → (V → Prop) → Prop
  | [], _, _, _ => True
  | x :: xs, k, i, P => (i = k → P x) ∧ Menu xs (k + 1) i P
theorem menu_get : ∀ {xs : List V} {k i : Int} {P : V → Prop}, k ≤ i → i < k + xs.length → Menu xs k i P → ∃ v, xs[(i - k).toNat]? = some v ∧ P v
  | [], k, i, P, h0, h1, _ => by simp at h1; omega
  | x :: xs, k, i, P, h0, h1, h => by
    by_cases e : i = k
    · subst e
      exact ⟨x, by simp, h.1 rfl⟩
    · obtain ⟨v, e1, e2⟩ := menu_get (xs := xs) (k := k + 1) (i := i) (P := P) (by omega) (by rw [List.length_cons] at h1; omega) h.2
      refine ⟨v, ?_, e2⟩
      rw [show (i - k).toNat = (i - (k + 1)).toNat + 1 by omega]
      simpa using e1
theorem rd_menu {a : Addr} {xs : List V} {i : Int} (e : SqL K H a xs) (h0 : 0 ≤ i) (h1 : i < xs.length) (h : Menu xs 0 i fun v => Q v H) : rIx K (.ref a) (.int i) H Q := by
  obtain ⟨v, e1, e2⟩ := menu_get h0 (by omega) h
  refine rd_ixL e (v := v) ?_ e2
  obtain ⟨j, rfl⟩ : ∃ j : Nat, i = j := ⟨i.toNat, by omega⟩
  exact atI_nat (by simpa using e1)
theorem rd_slT {a : Addr} {xs : List V} {lo hi : Option Int} (e : SqT K H a xs) (hc : ¬ (HT.sIx xs.length 0 lo = 0 ∧ HT.sIx xs.length xs.length hi = xs.length)) (h : ∀ p H1, Same H H1 → H1 p = some (.tup (cutV xs lo hi)) → Q (.ref p) H1) : rSlP K (.ref a) lo hi H Q :=
  .inr (.inr ⟨a, xs, rfl, e, hc, fun p hp => h p _ (same_new hp) upd_same⟩)
/-! is -/
def rIsP : R2 := fun x y H Q => (y = .non ∧ Q (.bl (decide (x = .non))) H) ∨ (∃ i j, x = .bl i ∧ y = .bl j ∧ Q (.bl (i == j)) H)
def rIsntP : R2 := fun x y H Q => (y = .non ∧ Q (.bl (!decide (x = .non))) H) ∨ (∃ i j, x = .bl i ∧ y = .bl j ∧ Q (.bl (i != j)) H)
theorem rd_isN {x : V} (h : Q (.bl (decide (x = .non))) H) : rIsP x .non H Q := .inl ⟨rfl, h⟩
theorem rd_isB {i j : Bool} (h : Q (.bl (i == j)) H) : rIsP (.bl i) (.bl j) H Q := .inr ⟨i, j, rfl, rfl, h⟩
theorem rd_isntN {x : V} (h : Q (.bl (!decide (x = .non))) H) : rIsntP x .non H Q := .inl ⟨rfl, h⟩
theorem rd_isntB {i j : Bool} (h : Q (.bl (i != j)) H) : rIsntP (.bl i) (.bl j) H Q := .inr ⟨i, j, rfl, rfl, h⟩
/-! == -/
theorem rd_eqI {i j : Int} (h : Q (.bl (decide (i = j))) H) : rEqD (.int i) (.int j) H Q := ⟨.int i, .int j, by simp only [Rep], by simp only [Rep], by simp [D.dep], by simp [D.dep], by simp only [pyEq]; rw [Bool.beq_eq_decide_eq]; exact h⟩
theorem rd_eqS {i j : Str} (h : Q (.bl (decide (i = j))) H) : rEqD (.str i) (.str j) H Q := ⟨.str i, .str j, by simp only [Rep], by simp only [Rep], by simp [D.dep], by simp [D.dep], by simp only [pyEq]; rw [Bool.beq_eq_decide_eq]; exact h⟩
theorem rd_eqB {i j : Bool} (h : Q (.bl (i == j)) H) : rEqD (.bl i) (.bl j) H Q := ⟨.bl i, .bl j, by simp only [Rep], by simp only [Rep], by simp [D.dep], by simp [D.dep], by simp only [pyEq]; exact h⟩
theorem rd_neI {i j : Int} (h : Q (.bl (!decide (i = j))) H) : rNeD (.int i) (.int j) H Q := ⟨.int i, .int j, by simp only [Rep], by simp only [Rep], by simp [D.dep], by simp [D.dep], by simp only [pyEq]; rw [Bool.beq_eq_decide_eq]; exact h⟩
theorem rd_neS {i j : Str} (h : Q (.bl (!decide (i = j))) H) : rNeD (.str i) (.str j) H Q := ⟨.str i, .str j, by simp only [Rep], by simp only [Rep], by simp [D.dep], by simp [D.dep], by simp only [pyEq]; rw [Bool.beq_eq_decide_eq]; exact h⟩
theorem rd_neB {i j : Bool} (h : Q (.bl (!(i == j))) H) : rNeD (.bl i) (.bl j) H Q := ⟨.bl i, .bl j, by simp only [Rep], by simp only [Rep], by simp [D.dep], by simp [D.dep], by simp only [pyEq]; exact h⟩
/-! the beginning -/
theorem start_cc {n : Str} {N : List Str} {v : V} {vs : List V} : start (n :: N) (v :: vs) = some v :: start N vs := by simp [start]
theorem start_cn {n : Str} {N : List Str} : start (n :: N) [] = none :: start N [] := by simp [start, List.replicate_succ]
theorem start_nn : start [] [] = [] := rfl
theorem cxK {CX : CXT} {P : Program} {w : World} {K : PySem.W.Frag} {mg : Str → Option Value} {base : Heap} {N : List Str} {q : Str} {sc : Scope} {f : Addr} {cd : Value} {A : Around} {outer : List Env} {s : Shared} {H : Hp} {E : XK} : (cxOf CX P w K mg base N q sc f cd A outer s H E).nox.K = K := rfl
theorem cxK' {CX : CXT} {P : Program} {w : World} {K : PySem.W.Frag} {mg : Str → Option Value} {base : Heap} {N : List Str} {q : Str} {sc : Scope} {f : Addr} {cd : Value} {A : Around} {outer : List Env} {s : Shared} {H : Hp} {E : XK} : (cxOf CX P w K mg base N q sc f cd A outer s H E).K = K := rfl
theorem compK {X : Cx} {sc : Scope} {N : List Str} {C : Addr} {s : Shared} {H : Hp} {ex : List Addr} : (X.comp sc N C s H ex).K = X.K := rfl
theorem room100 {k : Nat} {A : Around} (r : Room k A) : A.units + 100 < cLine := by have := r.un; omega
/-! an if by what it asks -/
theorem ite_dec {p A B : Prop} [Decidable p] (h1 : p → A) (h2 : ¬ p → B) : if decide p = true then A else B := ite2 (fun h => h1 (of_decide_eq_true h)) fun h => h2 (fun z => h (decide_eq_true z))
end
end L2

set_option Elab.async false
set_option linter.all false
set_option maxRecDepth 100000
set_option maxHeartbeats 4000000
namespace L2
open PySem PySem.Spec PyProof.Rows
section
variable {X : Cx} {K : PySem.W.Frag} {σ : St} {H : Hp} {D : Ends} {Q : VK} {E : XK}
theorem iteNT {A B : Prop} (h : B) : if (!true) = true then A else B := by simpa using h
theorem iteNF {A B : Prop} (h : A) : if (!false) = true then A else B := by simpa using h
/-- an argument list, in a box: so that nobody looks into what is to be shown -/
structure PAw (X : Cx) (es : List Expr) (t : TA) : Prop where
  h : PA X es t
section
variable {x : Str} {st : Stmt} {ps : List Str} {f : Addr} {fd : FuncData} {k : Nat} {sp : Sp} {e : Expr} {es : List Expr} {t : TA} {p pos : Pos} {id T : String} {r : List V → Hp → VK → Prop}
end
/-! ### loops -/
def ForW (J : It) (g : TG) (tb : TS) (D : Ends) (σ : St) (H : Hp) : Prop := ∃ W : Nat → Nat → St → Hp → Prop, (∃ m, W 0 m σ H) ∧ ∀ i m σ H, W i m σ H →
  (J.stop i H ∧ D.nx σ H) ∨ (J.go i H ∧ ∃ N : St → Hp → Prop, (∀ σ' H', N σ' H' → ∃ m', m' < m ∧ W (i + 1) m' σ' H') ∧ ∀ x H', J.yld i H x H' → g x σ H' fun σ2 H2 => tb { D with nx := N, ct := N, bk := D.nx } σ2 H2)
theorem rd_gTup {n : Nat} {t : TGs} {a : Addr} {xs : List V} {R : St → Hp → Prop} (e : SqT K H a xs) (hn : xs.length = n) (h : t xs σ H R) : gTup K n t (.ref a) σ H R := ⟨a, xs, rfl, e, hn, h⟩
theorem rd_exL {a : Addr} {xs : List V} {P : Addr → Prop} (e : SqL K H a xs) (h : P a) : ∃ b, V.ref a = V.ref b ∧ (∃ xs, SqL K H b xs) ∧ P b := ⟨a, rfl, ⟨xs, e⟩, h⟩
theorem rd_exT {a : Addr} {xs : List V} {P : Addr → Prop} (e : SqT K H a xs) (h : P a) : ∃ b, V.ref a = V.ref b ∧ (∃ xs, SqT K H b xs) ∧ P b := ⟨a, rfl, ⟨xs, e⟩, h⟩
theorem rd_exr1 {j : Int} {P : Int → Prop} (h1 : -(2 ^ 62) ≤ j ∧ j < 2 ^ 62) (h : P j) : ∃ k : Int, [V.int j] = [.int k] ∧ -(2 ^ 62) ≤ k ∧ k < 2 ^ 62 ∧ P k := ⟨j, rfl, h1.1, h1.2, h⟩
theorem rd_exr2 {i j : Int} {P : Int → Int → Prop} (h1 : -(2 ^ 62) ≤ i ∧ i < 2 ^ 62 ∧ -(2 ^ 62) ≤ j ∧ j < 2 ^ 62) (h : P i j) : ∃ i' j' : Int, [V.int i, V.int j] = [.int i', .int j'] ∧ (-(2 ^ 62) ≤ i' ∧ i' < 2 ^ 62 ∧ -(2 ^ 62) ≤ j' ∧ j' < 2 ^ 62) ∧ P i' j' := ⟨i, j, rfl, h1, h⟩
theorem forR {lo : Int} {n : Nat} {g : TG} {tb : TS} (Pv : Nat → St → Hp → Prop) (h0 : Pv 0 σ H)
    (hs : ∀ i σ H, i < n → Pv i σ H → g (.int (lo + i)) σ H fun σ2 H2 => tb { nx := Pv (i + 1), rt := D.rt, ct := Pv (i + 1), bk := D.nx } σ2 H2) (hd : ∀ σ H, Pv n σ H → D.nx σ H) : ForW (Itr lo n) g tb D σ H :=
  for_range Pv h0 hs hd
/-! ### comprehensions -/
/-! ### built-ins -/
def rAll (K : PySem.W.Frag) : List V → Hp → VK → Prop := fun xs H Q => ∃ (p : Addr) (bs : List Bool), xs = [.ref p] ∧ SqL K H p (bs.map V.bl) ∧ Q (.bl (bs.all id)) H
def rList (K : PySem.W.Frag) : List V → Hp → VK → Prop := fun xs H Q => ∃ p ys, xs = [.ref p] ∧ (SqL K H p ys ∨ SqT K H p ys) ∧ ∀ l, H l = none → Q (.ref l) (upd H l (.lst ys))
theorem rd_listL {p : Addr} {ys : List V} (e : SqL K H p ys) (h : ∀ l H1, H l = none → Same H H1 → H1 l = some (.lst ys) → Q (.ref l) H1) : rList K [.ref p] H Q := ⟨p, ys, rfl, .inl e, fun l hl => h l _ hl (same_new hl) upd_same⟩
theorem rd_listT {p : Addr} {ys : List V} (e : SqT K H p ys) (h : ∀ l H1, H l = none → Same H H1 → H1 l = some (.lst ys) → Q (.ref l) H1) : rList K [.ref p] H Q := ⟨p, ys, rfl, .inr e, fun l hl => h l _ hl (same_new hl) upd_same⟩
def tDM : TE := fun _ H Q => ∀ d H1, H d = none → Same H H1 → H1 d = some (.dK []) → Q (.ref d) H1
theorem rd_dnew (h : ∀ d H1, H d = none → Same H H1 → H1 d = some (.dK []) → Q (.ref d) H1) : tDM σ H Q := h
end
/-! ### keys, values, stamps, entries and deeds, over plain data -/
mutual
def smD : L2.D → Bool
  | .str z => decide (z.length ≤ sizeLine)
  | .lst ds => smDs ds
  | .tup ds => smDs ds
  | _ => true
def smDs : List L2.D → Bool
  | [] => true
  | d :: ds => smD d && smDs ds
end
def plainD (d : L2.D) (lo hi : Int) : Bool := match d with
  | .str z => plainB z lo hi
  | _ => false
def stampD : L2.D → Bool
  | .int i => decide (1 ≤ i ∧ i ≤ 999999999)
  | _ => false
def valD : L2.D → Bool
  | .non => true
  | d => plainD d 0 40
def entryD : L2.D → Bool
  | .tup [a, b, c] => plainD a 1 20 && stampD b && valD c
  | _ => false
def wordD (d : L2.D) (x : Str) : Bool := match d with
  | .str z => decide (z = x)
  | _ => false
def deedD : L2.D → Bool
  | .tup [a, b, c] => wordD a "put" && plainD b 1 20 && plainD c 0 40
  | .tup [a, b] => wordD a "drop" && plainD b 1 20
  | _ => false
theorem Same.get {H H1 : Hp} {p : Addr} {o : HO} (s : Same H H1) (e : H p = some o) : H1 p = some o := s p o e
theorem Same.tr {H H1 H2 : Hp} (s : Same H1 H2) (e : Same H H1) : Same H H2 := fun p o h => s p o (e p o h)
theorem Rep.int' {H : Hp} {i : Int} : Rep H (.int i) (.int i) := by simp only [Rep]
theorem Rep.str' {H : Hp} {i : Str} : Rep H (.str i) (.str i) := by simp only [Rep]
theorem Rep.bl' {H : Hp} {i : Bool} : Rep H (.bl i) (.bl i) := by simp only [Rep]
theorem Rep.non' {H : Hp} : Rep H .non .non := by simp only [Rep]
theorem Rep.mkT {H : Hp} {p : Addr} {vs : List V} {ds : List L2.D} (h : H p = some (.tup vs)) (r : Reps H ds vs) : Rep H (.tup ds) (.ref p) := by simp only [Rep]; exact ⟨p, vs, rfl, h, r⟩
theorem Rep.mkL {H : Hp} {p : Addr} {vs : List V} {ds : List L2.D} (h : H p = some (.lst vs)) (r : Reps H ds vs) : Rep H (.lst ds) (.ref p) := by simp only [Rep]; exact ⟨p, vs, rfl, h, r⟩
theorem Rep.mkD {H : Hp} {p : Addr} {kvs : List (Key × V)} (h : H p = some (.dK kvs)) : Rep H .dct (.ref p) := by simp only [Rep]; exact ⟨p, kvs, rfl, h⟩
theorem Reps.nil' {H : Hp} : Reps H [] [] := by simp only [Reps]
theorem Reps.cons' {H : Hp} {d : L2.D} {v : V} {ds : List L2.D} {vs : List V} (h : Rep H d v) (r : Reps H ds vs) : Reps H (d :: ds) (v :: vs) := by simp only [Reps]; exact ⟨v, vs, rfl, h, r⟩
theorem Reps.consE {H : Hp} {d : L2.D} {ds : List L2.D} {vs : List V} (h : Reps H (d :: ds) vs) : ∃ v r, vs = v :: r ∧ Rep H d v ∧ Reps H ds r := by simp only [Reps] at h; exact h
theorem Reps.nilE {H : Hp} {vs : List V} (h : Reps H [] vs) : vs = [] := by simp only [Reps] at h; exact h
theorem SqL.same {K : PySem.W.Frag} {H H' : Hp} {a : Addr} {xs : List V} (s : Same H H') (e : SqL K H a xs) : SqL K H' a xs := s.seq e
end L2

set_option Elab.async false
set_option linter.all false
set_option maxRecDepth 100000
set_option maxHeartbeats 4000000
namespace L2
open PySem PySem.Spec PyProof.Rows
/-! ### one step of a reading, found by its head -/
class RdS (g : Prop) (n : outParam Prop) : Prop where
  imp : n → g
theorem rd_go {g n : Prop} [h : RdS g n] (k : n) : g := h.imp k
class GetS (σ : St) (i : Nat) (v : outParam V) : Prop where
  get : σ[i]? = some (some v)
instance GetS.zero {v : V} {r : St} : GetS (some v :: r) 0 v := ⟨rfl⟩
instance GetS.succ {x : Option V} {r : St} {i : Nat} {v : V} [h : GetS r i v] : GetS (x :: r) (i + 1) v := ⟨by rw [List.getElem?_cons_succ]; exact h.get⟩
class SetS (σ : St) (i : Nat) (v : Option V) (σ' : outParam St) : Prop where
  set : σ.set i v = σ'
instance SetS.zero {x v : Option V} {r : St} : SetS (x :: r) 0 v (v :: r) := ⟨rfl⟩
instance SetS.succ {x v : Option V} {r r' : St} {i : Nat} [h : SetS r i v r'] : SetS (x :: r) (i + 1) v (x :: r') := ⟨by rw [List.set_cons_succ, h.set]⟩
class PickS (ix : List Nat) (σ : St) (σ' : outParam St) : Prop where
  eq : pick ix σ = σ'
instance PickS.nil {σ : St} : PickS [] σ [] := ⟨rfl⟩
instance PickS.cons {i : Nat} {ix : List Nat} {σ σ' : St} {v : V} [g : GetS σ i v] [h : PickS ix σ σ'] : PickS (i :: ix) σ (some v :: σ') := ⟨by
  show ((σ[i]?).join :: pick ix σ) = _
  rw [g.get, h.eq]
  rfl⟩
section
variable {K : PySem.W.Frag} {σ σ' : St} {H : Hp} {D : Ends} {Q : VK} {E : XK} {t u : TS} {te ta tb tc : TE} {c c' : TT} {R : Bool → Hp → Prop} {r r' : R2} {i j : Int} {n : Nat} {v x : V} {a b : Bool} {z y : Str} {P A B : Prop}
instance i1 : RdS (tSeq t u D σ H) (t { D with nx := u D } σ H) := ⟨id⟩
instance i2 {g : TG} : RdS (tAsg te g D σ H) (te σ H fun x H1 => g x σ H1 D.nx) := ⟨id⟩
instance i3 : RdS (tRet te D σ H) (te σ H D.rt) := ⟨id⟩
instance i4 : RdS (tRetN D σ H) (D.rt .non H) := ⟨id⟩
instance i5 : RdS (tDrop te D σ H) (te σ H fun _ H1 => D.nx σ H1) := ⟨id⟩
instance i6 : RdS (tNext D σ H) (D.nx σ H) := ⟨id⟩
instance i7 : RdS (tIfS c t u D σ H) (c σ H fun b H1 => if b = true then t D σ H1 else u D σ H1) := ⟨id⟩
instance i8 [g : GetS σ n v] : RdS (tVar n σ H Q) (Q v H) := ⟨fun h => ⟨v, g.get, h⟩⟩
instance i9 : RdS (tC v σ H Q) (Q v H) := ⟨id⟩
instance i10 : RdS (tOp r ta tb σ H Q) (ta σ H fun x H1 => tb σ H1 fun y H2 => r x y H2 Q) := ⟨id⟩
instance i11 {r : V → Hp → VK → Prop} : RdS (tUn r ta σ H Q) (ta σ H fun x H1 => r x H1 Q) := ⟨id⟩
instance i12 {g : Int → Int → V} : RdS (rI0 g (.int i) (.int j) H Q) (Q (g i j) H) := ⟨fun h => ⟨i, j, rfl, rfl, h⟩⟩
instance i13 {g : Int → V} : RdS (rU g (.int i) H Q) (Q (g i) H) := ⟨fun h => ⟨i, rfl, h⟩⟩
instance i14 : RdS (rAddP K (.int i) (.int j) H Q) (Q (.int (i + j)) H) := ⟨rd_addI⟩
instance i15 : RdS (rLtP (.int i) (.int j) H Q) (Q (.bl (decide (i < j))) H) := ⟨rd_ltI⟩
instance i16 : RdS (rLtP (.str z) (.str y) H Q) (Q (.bl (decide (z.cps.toList < y.cps.toList))) H) := ⟨rd_ltS⟩
instance i17 : RdS (rLeP (.int i) (.int j) H Q) (Q (.bl (decide (i ≤ j))) H) := ⟨rd_leI⟩
instance i18 : RdS (rLeP (.str z) (.str y) H Q) (Q (.bl (!decide (y.cps.toList < z.cps.toList))) H) := ⟨rd_leS⟩
instance i19 : RdS (rEqD (.int i) (.int j) H Q) (Q (.bl (decide (i = j))) H) := ⟨rd_eqI⟩
instance i20 : RdS (rEqD (.str z) (.str y) H Q) (Q (.bl (decide (z = y))) H) := ⟨rd_eqS⟩
instance i21 : RdS (rEqD (.bl a) (.bl b) H Q) (Q (.bl (a == b)) H) := ⟨rd_eqB⟩
instance i22 : RdS (rNeD (.int i) (.int j) H Q) (Q (.bl (!decide (i = j))) H) := ⟨rd_neI⟩
instance i23 : RdS (rNeD (.str z) (.str y) H Q) (Q (.bl (!decide (z = y))) H) := ⟨rd_neS⟩
instance i24 : RdS (rNeD (.bl a) (.bl b) H Q) (Q (.bl (!(a == b))) H) := ⟨rd_neB⟩
instance i25 : RdS (tTest te σ H R) (te σ H fun x H' => ∃ k, x = .bl k ∧ R k H') := ⟨id⟩
instance i26 : RdS (tB te σ H R) (te σ H fun x H' => ∃ k, x = .bl k ∧ R k H') := ⟨id⟩
instance i27 {F : Bool → Prop} : RdS (∃ c, V.bl a = V.bl c ∧ F c) (F a) := ⟨fun h => ⟨a, rfl, h⟩⟩
instance i28 {F : Int → Prop} : RdS (∃ c, V.int i = V.int c ∧ F c) (F i) := ⟨fun h => ⟨i, rfl, h⟩⟩
instance i29 {F : Str → Prop} : RdS (∃ c, V.str z = V.str c ∧ F c) (F z) := ⟨fun h => ⟨z, rfl, h⟩⟩
instance i30 : RdS (tAnd c c' σ H R) (c σ H fun b H1 => if b = true then c' σ H1 R else R false H1) := ⟨id⟩
instance i31 : RdS (tOr c c' σ H R) (c σ H fun b H1 => if b = true then R true H1 else c' σ H1 R) := ⟨id⟩
instance i32 : RdS (tNot c σ H R) (c σ H fun b H1 => R (!b) H1) := ⟨id⟩
instance i33 : RdS (tAndV ta tb σ H Q) (ta σ H fun x H1 => ∃ c, x = .bl c ∧ if c = true then tb σ H1 Q else Q (.bl false) H1) := ⟨id⟩
instance i34 : RdS (tOrV ta tb σ H Q) (ta σ H fun x H1 => ∃ c, x = .bl c ∧ if c = true then Q (.bl true) H1 else tb σ H1 Q) := ⟨id⟩
instance i35 : RdS (tNotV ta σ H Q) (ta σ H fun x H1 => ∃ c, x = .bl c ∧ Q (.bl (!c)) H1) := ⟨id⟩
instance i36 : RdS (tIf c ta tb σ H Q) (c σ H fun b H1 => if b = true then ta σ H1 Q else tb σ H1 Q) := ⟨id⟩
instance i37 : RdS (tChain r r' ta tb tc σ H Q) (ta σ H fun x H1 => tb σ H1 fun y H2 => r x y H2 fun z H3 => ∃ k, z = .bl k ∧ (if k = true then tc σ H3 fun w' H4 => r' y w' H4 Q else Q (.bl false) H3)) := ⟨id⟩
instance i38 {sp : Sp} {t : TA} : RdS (tCall sp [] E t σ H Q) (t σ H fun vs H1 => sp vs H1 Q E) := ⟨rd_call⟩
instance i39 {r : List V → Hp → VK → Prop} {t : TA} : RdS (tCB r t σ H Q) (t σ H fun vs H1 => r vs H1 Q) := ⟨id⟩
instance i40 {F : List V → Hp → Prop} : RdS (tNil σ H F) (F [] H) := ⟨id⟩
instance i41 {tr : TA} {F : List V → Hp → Prop} : RdS (tCons ta tr σ H F) (ta σ H fun x H1 => tr σ H1 fun xs H2 => F (x :: xs) H2) := ⟨id⟩
instance i42 {t : TA} : RdS (tTupM t σ H Q) (t σ H fun xs H1 => mkT xs H1 Q) := ⟨id⟩
instance i43 {t : TA} : RdS (tLstM t σ H Q) (t σ H fun xs H1 => mkL xs H1 Q) := ⟨id⟩
instance i44 : RdS (rMax [.int i, .int j] H Q) (Q (.int (max i j)) H) := ⟨rd_max⟩
instance i45 : RdS (rMin [.int i, .int j] H Q) (Q (.int (min i j)) H) := ⟨rd_min⟩
instance i46 : RdS (rIsP x .non H Q) (Q (.bl (decide (x = .non))) H) := ⟨rd_isN⟩
instance i47 : RdS (rIsP (.bl a) (.bl b) H Q) (Q (.bl (a == b)) H) := ⟨rd_isB⟩
instance i48 : RdS (rIsntP x .non H Q) (Q (.bl (!decide (x = .non))) H) := ⟨rd_isntN⟩
instance i49 : RdS (rIsntP (.bl a) (.bl b) H Q) (Q (.bl (a != b)) H) := ⟨rd_isntB⟩
instance i50 {r : V → Option Int → Option Int → Hp → VK → Prop} {tl th : TO} : RdS (tSl r te tl th σ H Q) (te σ H fun x H1 => tl σ H1 fun l H2 => th σ H2 fun u H3 => r x l u H3 Q) := ⟨id⟩
instance i51 {F : Option Int → Hp → Prop} : RdS (tNoPart σ H F) (F none H) := ⟨id⟩
instance i52 {F : Option Int → Hp → Prop} : RdS (tPart te σ H F) (te σ H fun x H1 => ∃ i, x = .int i ∧ F (some i) H1) := ⟨id⟩
instance i53 : RdS (if true = true then A else B) A := ⟨iteT⟩
instance i54 : RdS (if false = true then A else B) B := ⟨iteF⟩
instance i55 : RdS (if (!true) = true then A else B) B := ⟨iteNT⟩
instance i56 : RdS (if (!false) = true then A else B) A := ⟨iteNF⟩
instance i57 {ix : List Nat} {wi : TI} : RdS (tLC ix wi c te σ H Q) (wi σ H fun J H1 => LcW J ix σ c te Q H1) := ⟨id⟩
instance i58 {wi : TI} {g : TG} : RdS (tFor wi g t D σ H) (wi σ H fun J H1 => ForW J g t D σ H1) := ⟨id⟩
instance i59 {F : St → Hp → Prop} [s : SetS σ n (some v) σ'] : RdS (gName n v σ H F) (F σ' H) := ⟨fun h => by show F (σ.set n (some v)) H; rw [s.set]; exact h⟩
instance i60 {F : It → Hp → Prop} : RdS (iStr te σ H F) (te σ H fun x H1 => ∃ z, x = .str z ∧ F (Its z) H1) := ⟨id⟩
instance i61 {F : It → Hp → Prop} : RdS (iList K te σ H F) (te σ H fun x H1 => ∃ a, x = .ref a ∧ (∃ xs, SqL K H1 a xs) ∧ F (Itl K a) H1) := ⟨id⟩
instance i62 {F : It → Hp → Prop} : RdS (iTup K te σ H F) (te σ H fun x H1 => ∃ a, x = .ref a ∧ (∃ xs, SqT K H1 a xs) ∧ F (Itt K a) H1) := ⟨id⟩
instance i63 {t : TA} {F : It → Hp → Prop} : RdS (iRng1 t σ H F) (t σ H fun vs H1 => ∃ j : Int, vs = [.int j] ∧ -(2 ^ 62) ≤ j ∧ j < 2 ^ 62 ∧ F (Itr 0 j.toNat) H1) := ⟨id⟩
instance i64 {t : TA} {F : It → Hp → Prop} : RdS (iRng2 t σ H F) (t σ H fun vs H1 => ∃ i j : Int, vs = [.int i, .int j] ∧ (-(2 ^ 62) ≤ i ∧ i < 2 ^ 62 ∧ -(2 ^ 62) ≤ j ∧ j < 2 ^ 62) ∧ F (Itr i (j - i).toNat) H1) := ⟨id⟩
instance i65 {F : St → Hp → Prop} : RdS (gNil [] σ H F) (F σ H) := ⟨fun h => ⟨rfl, h⟩⟩
instance i66 {g : TG} {gs : TGs} {vs : List V} {F : St → Hp → Prop} : RdS (gCons g gs (v :: vs) σ H F) (g v σ H fun σ' H' => gs vs σ' H' F) := ⟨fun h => ⟨v, vs, rfl, h⟩⟩
instance i68 : RdS (tYes σ H R) (R true H) := ⟨id⟩
class KitS (n T : String) (b : outParam Bool) : Prop where
  eq : ∀ K : PySem.W.Frag, PySem.W.kitOne K (.type n) (.type T) = some b
instance : KitS "NoneType" "str" false := ⟨kit_non_str⟩
instance : KitS "NoneType" "int" false := ⟨kit_non_int⟩
instance : KitS "NoneType" "bool" false := ⟨kit_non_bool⟩
instance : KitS "NoneType" "tuple" false := ⟨kit_non_tuple⟩
instance : KitS "NoneType" "list" false := ⟨kit_non_list⟩
instance : KitS "NoneType" "dict" false := ⟨kit_non_dict⟩
instance : KitS "bool" "str" false := ⟨kit_bl_str⟩
instance : KitS "bool" "int" true := ⟨kit_bl_int⟩
instance : KitS "bool" "bool" true := ⟨kit_bl_bool⟩
instance : KitS "bool" "tuple" false := ⟨kit_bl_tuple⟩
instance : KitS "bool" "list" false := ⟨kit_bl_list⟩
instance : KitS "bool" "dict" false := ⟨kit_bl_dict⟩
instance : KitS "int" "str" false := ⟨kit_int_str⟩
instance : KitS "int" "int" true := ⟨kit_int_int⟩
instance : KitS "int" "bool" false := ⟨kit_int_bool⟩
instance : KitS "int" "tuple" false := ⟨kit_int_tuple⟩
instance : KitS "int" "list" false := ⟨kit_int_list⟩
instance : KitS "int" "dict" false := ⟨kit_int_dict⟩
instance : KitS "str" "str" true := ⟨kit_str_str⟩
instance : KitS "str" "int" false := ⟨kit_str_int⟩
instance : KitS "str" "bool" false := ⟨kit_str_bool⟩
instance : KitS "str" "tuple" false := ⟨kit_str_tuple⟩
instance : KitS "str" "list" false := ⟨kit_str_list⟩
instance : KitS "str" "dict" false := ⟨kit_str_dict⟩
instance : KitS "list" "str" false := ⟨kit_lst_str⟩
instance : KitS "list" "int" false := ⟨kit_lst_int⟩
instance : KitS "list" "bool" false := ⟨kit_lst_bool⟩
instance : KitS "list" "tuple" false := ⟨kit_lst_tuple⟩
instance : KitS "list" "list" true := ⟨kit_lst_list⟩
instance : KitS "list" "dict" false := ⟨kit_lst_dict⟩
instance : KitS "tuple" "str" false := ⟨kit_tup_str⟩
instance : KitS "tuple" "int" false := ⟨kit_tup_int⟩
instance : KitS "tuple" "bool" false := ⟨kit_tup_bool⟩
instance : KitS "tuple" "tuple" true := ⟨kit_tup_tuple⟩
instance : KitS "tuple" "list" false := ⟨kit_tup_list⟩
instance : KitS "tuple" "dict" false := ⟨kit_tup_dict⟩
instance : KitS "dict" "str" false := ⟨kit_dK_str⟩
instance : KitS "dict" "int" false := ⟨kit_dK_int⟩
instance : KitS "dict" "bool" false := ⟨kit_dK_bool⟩
instance : KitS "dict" "tuple" false := ⟨kit_dK_tuple⟩
instance : KitS "dict" "list" false := ⟨kit_dK_list⟩
instance : KitS "dict" "dict" true := ⟨kit_dK_dict⟩
instance i70 {T : String} [k : KitS "NoneType" T b] : RdS (rIs K [.non, .ty T] H Q) (Q (.bl b) H) := ⟨rd_is .non (k.eq K)⟩
instance i71 {T : String} [k : KitS "bool" T b] : RdS (rIs K [.bl a, .ty T] H Q) (Q (.bl b) H) := ⟨rd_is (.bl a) (k.eq K)⟩
instance i72 {T : String} [k : KitS "int" T b] : RdS (rIs K [.int i, .ty T] H Q) (Q (.bl b) H) := ⟨rd_is (.int i) (k.eq K)⟩
instance i73 {T : String} [k : KitS "str" T b] : RdS (rIs K [.str z, .ty T] H Q) (Q (.bl b) H) := ⟨rd_is (.str z) (k.eq K)⟩
theorem rd_isL {T : String} [k : KitS "list" T b] {p : Addr} {xs : List V} (e : H p = some (.lst xs)) (h : Q (.bl b) H) : rIs K [.ref p, .ty T] H Q := rd_is (.lst e) (k.eq K) h
theorem rd_isT {T : String} [k : KitS "tuple" T b] {p : Addr} {xs : List V} (e : H p = some (.tup xs)) (h : Q (.bl b) H) : rIs K [.ref p, .ty T] H Q := rd_is (.tup e) (k.eq K) h
theorem rd_isD {T : String} [k : KitS "dict" T b] {p : Addr} {xs : List (Key × V)} (e : H p = some (.dK xs)) (h : Q (.bl b) H) : rIs K [.ref p, .ty T] H Q := rd_is (.dK e) (k.eq K) h
end
end L2

set_option Elab.async false
set_option linter.all false
set_option maxRecDepth 100000
set_option maxHeartbeats 4000000
namespace L2
open PySem PySem.Spec PyProof.Rows PySem.SeqAt
open AutoSeq1 (wpAny_loadPart')
/-! ### a tuple times 0 or 1 -/
section
variable {X : Cx} {K : PySem.W.Frag} {H : Hp} {Q : VK}
def rRepT : R2 := fun x y H Q => ∃ p xs k, x = .ref p ∧ y = .int k ∧ H p = some (.tup xs) ∧ xs ≠ [] ∧ ((k = 1 ∧ Q (.ref p) H) ∨ (k = 0 ∧ ∀ q, H q = none → Q (.ref q) (upd H q (.tup []))))
def rMulQ : R2 := fun x y H Q => rMulP x y H Q ∨ rRepT x y H Q
end
end L2

set_option Elab.async false
set_option linter.all false
set_option maxRecDepth 100000
set_option maxHeartbeats 4000000
namespace L2
open PySem PySem.Spec PyProof.Rows
/-! ### the rules in boxes: so that nobody looks into what is to be shown -/
structure BE (X : Cx) (e : Expr) (t : TE) : Prop where
  h : PE X e t
structure BT (X : Cx) (e : Expr) (t : TT) : Prop where
  h : PT X e t
structure BW (X : Cx) (e : Expr) (t : TT) : Prop where
  h : PW X e t
structure BA (X : Cx) (es : List Expr) (t : TA) : Prop where
  h : PA X es t
structure BS (X : Cx) (s : Stmt) (t : TS) : Prop where
  h : PS X s t
structure BSs (X : Cx) (s : List Stmt) (t : TS) : Prop where
  h : PSs X s t
structure BG (X : Cx) (e : Expr) (t : TG) : Prop where
  h : PG X e t
structure BGs (X : Cx) (e : List Expr) (t : TGs) : Prop where
  h : PGs X e t
structure BI (X : Cx) (tg e : Expr) (t : TI) : Prop where
  h : PI X tg e t
structure BO (X : Cx) (e : Option Expr) (t : TO) : Prop where
  h : PO X e t
structure BF (X : Cx) (es : List Expr) (t : TT) : Prop where
  h : PIfs X es t
section
variable {X : Cx} {a b c e o : Expr} {es : List Expr} {ta tb tc te : TE} {tA tB' : TT} {t : TA} {pos p p2 : Pos} {st : Stmt} {rest xs ys : List Stmt} {s u : TS}
theorem bv (i : Nat) {x : Str} (hN : X.N[i]? = some x := by rfl) (hv : Vis X.env.scope x := by first | exact Or.inl rfl | exact Or.inr (Or.inl rfl) | exact Or.inr (Or.inr rfl)) (hd : (x == ("__debug__" : Str)) = false := by decide)
    (hcd : (x == ("__classdict__" : Str)) = false := by decide) : BE X (.Name x pos) (tVar i) := ⟨pv i hN hv hd hcd⟩
theorem b_int {i j} : BE X (.Constant (.int i) j pos) (tC (.int i)) := ⟨pe_int⟩
theorem b_bl {i j} : BE X (.Constant (.bool i) j pos) (tC (.bl i)) := ⟨pe_bl⟩
theorem b_str {x j} : BE X (.Constant (.str x) j pos) (tC (.str x)) := ⟨pe_str⟩
theorem b_gl {x : Str} {v : V} (h : ∃ u, X.mg x = some u ∧ RelV v u) (hg : Gl X x := by rfl) (hd : (x == ("__debug__" : Str)) = false := by decide) : BE X (.Name x pos) (tC v) := ⟨pe_gl h hg hd⟩
theorem b_ty {x : Str} {T : String} (hm : X.mg x = none) (hv : bootBuiltins x = some (.type T)) (hg : Gl X x := by rfl) (hn : x ≠ "__name__" := by decide) (hd : (x == ("__debug__" : Str)) = false := by decide) : BE X (.Name x pos) (tC (.ty T)) := ⟨pe_ty hm hv hg hn hd⟩
theorem b_op {op : Operator} {r : R2} (ho : OpR X (binaryOp op) r) (ha : BE X a ta) (hb : BE X b tb) : BE X (.BinOp a op b pos) (tOp r ta tb) := ⟨pe_op ho ha.h hb.h⟩
theorem b_cmp {op : CmpOp} {r : R2} (ho : OpR X (compareOp op) r) (ha : BE X a ta) (hb : BE X b tb) (hm : behindInMarks op b = false) : BE X (.Compare a [op] [b] pos) (tOp r ta tb) := ⟨pe_cmpR ho ha.h hb.h hm⟩
theorem b_one {op} (h : BE X a ta) : BE X (.BoolOp op [a] pos) ta := ⟨pe_one h.h⟩
theorem b_and (ha : BE X a ta) (hb : BE X (.BoolOp .And (b :: es) pos) tb) : BE X (.BoolOp .And (a :: b :: es) pos) (tAndV ta tb) := ⟨pe_and ha.h hb.h⟩
theorem ba_nil : BA X [] tNil := ⟨pa_nil⟩
theorem ba_c (ha : BE X e te) (hr : BA X es t) (h : isStar e = false) : BA X (e :: es) (tCons te t) := ⟨pa_c ha.h hr.h h⟩
theorem b_lst (h : BA X es t) : BE X (.List es pos) (tLstM t) := ⟨pe_lstM h.h⟩
theorem b_ix {r : R2} (hr : IxR X r) (ha : BE X a ta) (hb : BE X b tb) (hs : PlainIx b) : BE X (.Subscript a b pos) (tOp r ta tb) := ⟨pe_ix hr ha.h hb.h hs⟩
theorem b_f {x : Str} {sf : Stmt} {ps : List Str} {f : Addr} {fd : FuncData} {k : Nat} {sp : Sp} (N : Fn X.K X.mg x sf ps f fd) (G : FnOk X.prog X.w X.K X.mg X.base CX0 k f fd ps sp) (hr : Room k X.A) (ha : BA X (e :: es) t) (hg : Gl X x := by rfl) (hdb : (x == ("__debug__" : Str)) = false := by decide) (h1 : isStar e = false := by rfl) (h2 : noStar es = true := by rfl) :
    BE X (.Call (.Name x p) (e :: es) [] pos) (tCall sp [] E0 t) := ⟨pe_f N G hr ha.h hg hdb h1 h2⟩
theorem b_b {x : Str} {id : String} {r : List V → Hp → VK → Prop} (hc : CallR X (.builtin id) r) (hm : X.mg x = none) (hv : bootBuiltins x = some (.builtin id)) (ha : BA X (e :: es) t) (hg : Gl X x := by rfl) (hn : x ≠ "__name__" := by decide) (hdb : (x == ("__debug__" : Str)) = false := by decide) (h1 : isStar e = false := by rfl) (h2 : noStar es = true := by rfl) :
    BE X (.Call (.Name x p) (e :: es) [] pos) (tCB r t) := ⟨pe_b hc hm hv ha.h hg hn hdb h1 h2⟩
theorem b_t {x : Str} {T : String} {r : List V → Hp → VK → Prop} (hc : CallR X (.type T) r) (hm : X.mg x = none) (hv : bootBuiltins x = some (.type T)) (ha : BA X (e :: es) t) (hg : Gl X x := by rfl) (hn : x ≠ "__name__" := by decide) (hdb : (x == ("__debug__" : Str)) = false := by decide) (h1 : isStar e = false := by rfl) (h2 : noStar es = true := by rfl) :
    BE X (.Call (.Name x p) (e :: es) [] pos) (tCB r t) := ⟨pe_t hc hm hv ha.h hg hn hdb h1 h2⟩
theorem bi_r1 {tg : Expr} (hm : X.mg "range" = none) (ha : BA X [a] t) (hg : Gl X "range" := by rfl) (h1 : isStar a = false := by rfl) : BI X tg (.Call (.Name "range" p) [a] [] pos) (iRng1 t) := ⟨pi_r1 hm ha.h hg h1⟩
theorem bf_nil : BF X [] tYes := ⟨pifs_nil⟩
/-! tests -/
theorem bt_cmp {op : CmpOp} {r : R2} (ho : OpR X (compareOp op) r) (ha : BE X a ta) (hb : BE X b tb) (hm : behindInMarks op b = false) : BT X (.Compare a [op] [b] pos) (tTest (tOp r ta tb)) := ⟨pt_cmpR ho ha.h hb.h hm⟩
theorem bt_val (h : BE X e te) (he : ∀ whole, isTrue e X.env whole = (do let v ← whole; standAt e.pos; holding [v] (truthy v))) : BT X e (tB te) := ⟨pt_val h.h he⟩
theorem bt_not (h : BT X a tA) : BT X (.UnaryOp .Not a pos) (tNot tA) := ⟨pt_not h.h⟩
/-! statements -/
theorem bss_nil : BSs X [] tNext := ⟨pss_nil⟩
theorem bss_cons (h1 : BS X st s) (h2 : BSs X rest u) : BSs X (st :: rest) (tSeq s u) := ⟨pss_cons h1.h h2.h⟩
theorem bss_one (h : BS X st s) : BSs X [st] s := ⟨pss_one h.h⟩
theorem bs_expr (h : BE X e te) (hs : swapsWith e none pos.line X.env = pure false := by rfl) : BS X (.Expr e pos) (tDrop te) := ⟨ps_expr h.h hs⟩
theorem bs_ret (h : BE X e te) : BS X (.Return (some e) pos) (tRet te) := ⟨ps_ret h.h⟩
theorem bs_if (hc : BT X c tA) (ha : BSs X xs s) (hb : BSs X ys u) : BS X (.If c xs ys pos) (tIfS tA s u) := ⟨ps_if hc.h ha.h hb.h⟩
theorem bs_set {i : Nat} {x : Str} {pos' : Pos} (hN : X.N.Nodup) (hi : X.N[i]? = some x) (hx : Loc X.env.scope x) (he : BE X e te) (hs : swapsWith e (some (.Name x pos')) pos.line X.env = pure false := by rfl) (hf : X.fn x = true ∨ X.env.scope.names.lookup x = some .local := by first | exact .inl rfl | exact .inr rfl | assumption) :
    BS X (.Assign [.Name x pos'] e pos) (tAsg te (gName i)) := ⟨ps_set hN hi hx he.h hs hf⟩
theorem bg_name {i : Nat} {x : Str} (hN : X.N.Nodup) (hi : X.N[i]? = some x) (hx : Loc X.env.scope x) (hf : X.fn x = true ∨ X.env.scope.names.lookup x = some .local := by first | exact .inl rfl | exact .inr rfl | assumption) : BG X (.Name x pos) (gName i) := ⟨pg_name hN hi hx hf⟩
theorem bs_for {tg iter : Expr} {wi : TI} {g : TG} (hp : PassesOwn (model X.prog X.w) X.A X.env X.xe) (hc : X.calm = true) (hi : BI X tg iter wi) (hg : BG X tg g) (hb : BSs X xs s) (hs : ∀ x, foldedSetIterable iter X.env x = pure x := by intro _; rfl) : BS X (.For tg iter xs [] pos) (tFor wi g s) := ⟨ps_for hp hc hi.h hg.h hb.h hs⟩
end
instance k0 {A B : Prop} : RdS (if (true == true) = true then A else B) A := ⟨fun h => by simpa using h⟩
instance k1 {A B : Prop} : RdS (if (true != true) = true then A else B) B := ⟨fun h => by simpa using h⟩
instance k2 {A B : Prop} : RdS (if (true == false) = true then A else B) B := ⟨fun h => by simpa using h⟩
instance k3 {A B : Prop} : RdS (if (true != false) = true then A else B) A := ⟨fun h => by simpa using h⟩
instance k4 {A B : Prop} : RdS (if (false == true) = true then A else B) B := ⟨fun h => by simpa using h⟩
instance k5 {A B : Prop} : RdS (if (false != true) = true then A else B) A := ⟨fun h => by simpa using h⟩
instance k6 {A B : Prop} : RdS (if (false == false) = true then A else B) A := ⟨fun h => by simpa using h⟩
instance k7 {A B : Prop} : RdS (if (false != false) = true then A else B) B := ⟨fun h => by simpa using h⟩
theorem rd_pick {K : PySem.W.Frag} {H : Hp} {Q : VK} {a : Addr} {xs : List V} {i : Int} (e : SqL K H a xs) (h0 : 0 ≤ i) (h1 : i < xs.length) (h : ∀ v ∈ xs, Q v H) : rIx K (.ref a) (.int i) H Q := by
  obtain ⟨j, rfl⟩ : ∃ j : Nat, i = j := ⟨i.toNat, by omega⟩
  have hj : j < xs.length := by omega
  exact rd_ixL e (atI_nat (List.getElem?_eq_getElem hj)) (h _ (List.getElem_mem hj))
section
variable {P : Program} {w : World} {K : PySem.W.Frag} {mg : Str → Option Value} {base : Heap}
theorem Fun.okB {x qual : Str} {st : Stmt} {f : Addr} {fd : FuncData} {N ps : List Str} {k : Nat} {sp : Sp} (F : Fun K x qual st f fd) (S : FnScope N ps (defScope st)) (len : ∀ vs H Q E, sp vs H Q E → vs.length = ps.length)
    (hbody : ∀ (cdv : Value) (A : Around) (outer : List Env) (s : Shared) (H : Hp) (vs : List V) (Q : VK) (E : XK), Room k (A.deeper (envOfC qual (defScope st) s.heap.objs.size f cdv)) → sp vs H Q E →
      ∃ t, BSs (cxOf CX0 P w K mg base N qual (defScope st) f cdv A outer s H E).nox (defBody st) t ∧ t { nx := fun _ H' => Q .non H', rt := Q } (start N vs) H) : FnOk P w K mg base CX0 (k + 1) f fd ps sp :=
  F.ok S len fun cdv A outer s H vs Q E hr hs => let ⟨t, h, q⟩ := hbody cdv A outer s H vs Q E hr hs; ⟨t, h.h, q⟩
end
end L2

set_option Elab.async false
set_option linter.all false
set_option maxRecDepth 100000
set_option maxHeartbeats 4000000
namespace L2
open PySem PySem.Spec PyProof.Rows
section
variable {X : Cx} {K : PySem.W.Frag} {σ : St} {H : Hp} {Q : VK} {o e : Expr} {es : List Expr} {to te : TE} {t : TA} {apos cpos pos p2 : Pos}
/-! ### xs.insert(k, y), k within -/
def insL {α : Type} (k : Nat) (y : α) (xs : List α) : List α := xs.take k ++ y :: xs.drop k
def rInsert : V → List V → Hp → VK → Prop := fun x vs H Q => ∃ l xs i y, x = .ref l ∧ vs = [.int i, y] ∧ H l = some (.lst xs) ∧ 0 ≤ i ∧ i ≤ xs.length ∧ xs.length < sizeLine ∧ Q .non (upd H l (.lst (insL i.toNat y xs)))
instance j1 {T : String} {r : V → List V → Hp → VK → Prop} : RdS (tBM K T r to t σ H Q) (to σ H fun x H1 => tyV K T x H1 ∧ t σ H1 fun xs H2 => r x xs H2 Q) := ⟨id⟩
theorem rd_bmL {p : Addr} {xs : List V} {P : Prop} (e : H p = some (.lst xs)) (h : P) : tyV K "list" (.ref p) H ∧ P := ⟨.inl ⟨rfl, _, SqL.of e⟩, h⟩
/-! ### xs[::-1] of a list -/
def tRev (K : PySem.W.Frag) (te : TE) : TE := fun σ H Q => te σ H fun x H1 => ∃ a xs, x = .ref a ∧ SqL K H1 a xs ∧ ∀ p H2, H1 p = none → Same H1 H2 → H2 p = some (.lst xs.reverse) → Q (.ref p) H2
instance j2 {te : TE} : RdS (tRev K te σ H Q) (te σ H fun x H1 => ∃ a xs, x = .ref a ∧ SqL K H1 a xs ∧ ∀ p H2, H1 p = none → Same H1 H2 → H2 p = some (.lst xs.reverse) → Q (.ref p) H2) := ⟨id⟩
instance j3 {A B : Prop} {b : Bool} : RdS (if (!(b == b)) = true then A else B) B := ⟨fun h => by simpa using h⟩
instance GetS.pick {ix : List Nat} {σ σ' : St} {i : Nat} {v : V} [p : PickS ix σ σ'] [g : GetS σ' i v] : GetS (pick ix σ) i v := ⟨by rw [p.eq]; exact g.get⟩
end
instance n0 {A B : Prop}  : RdS (if decide ((.non : V) = .non) = true then A else B) A := ⟨fun h => by simpa using h⟩
instance n1 {A B : Prop}  : RdS (if (!decide ((.non : V) = .non)) = true then A else B) B := ⟨fun h => by simpa using h⟩
instance n2 {A B : Prop} {p : Addr} : RdS (if decide (((.ref p) : V) = .non) = true then A else B) B := ⟨fun h => by simpa using h⟩
instance n3 {A B : Prop} {p : Addr} : RdS (if (!decide (((.ref p) : V) = .non)) = true then A else B) A := ⟨fun h => by simpa using h⟩
instance n4 {A B : Prop} {i : Int} : RdS (if decide (((.int i) : V) = .non) = true then A else B) B := ⟨fun h => by simpa using h⟩
instance n5 {A B : Prop} {i : Int} : RdS (if (!decide (((.int i) : V) = .non)) = true then A else B) A := ⟨fun h => by simpa using h⟩
instance n6 {A B : Prop} {z : Str} : RdS (if decide (((.str z) : V) = .non) = true then A else B) B := ⟨fun h => by simpa using h⟩
instance n7 {A B : Prop} {z : Str} : RdS (if (!decide (((.str z) : V) = .non)) = true then A else B) A := ⟨fun h => by simpa using h⟩
instance n8 {A B : Prop} {b : Bool} : RdS (if decide (((.bl b) : V) = .non) = true then A else B) B := ⟨fun h => by simpa using h⟩
instance n9 {A B : Prop} {b : Bool} : RdS (if (!decide (((.bl b) : V) = .non)) = true then A else B) A := ⟨fun h => by simpa using h⟩
section
variable {X : Cx} {K : PySem.W.Frag}
theorem o_addK (h : X.K = K) : OpR X (binaryOp .Add) (rAddP K) := h ▸ o_add
end
/-! ### entries, as plain data -/
abbrev Ent := Str × Int × L2.D
def entD (e : Ent) : L2.D := .tup [.str e.1, .int e.2.1, e.2.2]
def optD : Option Ent → L2.D
  | none => .non
  | some e => entD e
theorem Reps.at {H : Hp} {α : Type} {f : α → L2.D} : ∀ {es : List α} {vs : List V} {j : Nat} {v : V}, Reps H (es.map f) vs → vs[j]? = some v → ∃ e, es[j]? = some e ∧ Rep H (f e) v
  | [], vs, j, v, h, e => by
    rw [List.map_nil] at h
    rw [h.nilE] at e
    simp at e
  | x :: es, vs, j, v, h, e => by
    rw [List.map_cons] at h
    obtain ⟨u, r, rfl, h1, h2⟩ := h.consE
    cases j with
    | zero =>
      simp at e
      subst e
      exact ⟨x, rfl, h1⟩
    | succ j =>
      obtain ⟨y, e1, e2⟩ := Reps.at (es := es) (j := j) h2 (by simpa using e)
      exact ⟨y, by simpa using e1, e2⟩
/-! what a list's change leaves as it is: tuples and what they hold -/
mutual
def noL : L2.D → Bool
  | .lst _ => false
  | .dct => false
  | .tup ds => noLs ds
  | _ => true
def noLs : List L2.D → Bool
  | [] => true
  | d :: ds => noL d && noLs ds
end
def Tups (H H' : Hp) : Prop := ∀ b xs, H b = some (.tup xs) → H' b = some (.tup xs)
mutual
theorem Rep.stay {H H' : Hp} (s : Tups H H') : ∀ {d : L2.D} {v : V}, noL d = true → Rep H d v → Rep H' d v
  | .non, v, _, h => by simp only [Rep] at h ⊢; exact h
  | .bl b, v, _, h => by simp only [Rep] at h ⊢; exact h
  | .int b, v, _, h => by simp only [Rep] at h ⊢; exact h
  | .str b, v, _, h => by simp only [Rep] at h ⊢; exact h
  | .lst ds, v, n, h => by simp only [noL] at n; cases n
  | .dct, v, n, h => by simp only [noL] at n; cases n
  | .tup ds, v, n, h => by
    simp only [noL] at n
    simp only [Rep] at h ⊢
    obtain ⟨a, vs, e, h1, h2⟩ := h
    exact ⟨a, vs, e, s _ _ h1, Reps.stay s n h2⟩
theorem Reps.stay {H H' : Hp} (s : Tups H H') : ∀ {ds : List L2.D} {vs : List V}, noLs ds = true → Reps H ds vs → Reps H' ds vs
  | [], vs, _, h => by simp only [Reps] at h ⊢; exact h
  | d :: ds, vs, n, h => by
    simp only [noLs, Bool.and_eq_true] at n
    simp only [Reps] at h ⊢
    obtain ⟨v, r, e, h1, h2⟩ := h
    exact ⟨v, r, e, Rep.stay s n.1 h1, Reps.stay s n.2 h2⟩
end
theorem Reps.take {H : Hp} : ∀ {ds : List L2.D} {vs : List V} (n : Nat), Reps H ds vs → Reps H (ds.take n) (vs.take n)
  | ds, vs, 0, _ => by rw [List.take_zero, List.take_zero]; exact Reps.nil'
  | [], vs, n + 1, h => by rw [h.nilE]; exact Reps.nil'
  | d :: ds, vs, n + 1, h => by
    obtain ⟨v, r, rfl, h1, h2⟩ := h.consE
    exact Reps.cons' h1 (Reps.take n h2)
theorem Reps.drop {H : Hp} : ∀ {ds : List L2.D} {vs : List V} (n : Nat), Reps H ds vs → Reps H (ds.drop n) (vs.drop n)
  | ds, vs, 0, h => h
  | [], vs, n + 1, h => by rw [h.nilE]; exact Reps.nil'
  | d :: ds, vs, n + 1, h => by
    obtain ⟨v, r, rfl, h1, h2⟩ := h.consE
    exact Reps.drop n h2
theorem Reps.append {H : Hp} : ∀ {ds es : List L2.D} {vs us : List V}, Reps H ds vs → Reps H es us → Reps H (ds ++ es) (vs ++ us)
  | [], es, vs, us, h, h' => by rw [h.nilE]; exact h'
  | d :: ds, es, vs, us, h, h' => by
    obtain ⟨v, r, rfl, h1, h2⟩ := h.consE
    exact Reps.cons' h1 (Reps.append h2 h')
theorem Reps.ins {H : Hp} {ds : List L2.D} {vs : List V} {d : L2.D} {v : V} (k : Nat) (h : Reps H ds vs) (h1 : Rep H d v) : Reps H (insL k d ds) (insL k v vs) := (h.take k).append (Reps.cons' h1 (h.drop k))
theorem Reps.reverse {H : Hp} : ∀ {ds : List L2.D} {vs : List V}, Reps H ds vs → Reps H ds.reverse vs.reverse
  | [], vs, h => by rw [h.nilE]; exact Reps.nil'
  | d :: ds, vs, h => by
    obtain ⟨v, r, rfl, h1, h2⟩ := h.consE
    rw [List.reverse_cons, List.reverse_cons]
    exact (Reps.reverse h2).append (Reps.cons' h1 Reps.nil')
/-! the newest -/
def stepN (key : Str) (st : Int) (f : Option Ent) (e : Ent) : Option Ent := if e.1 = key ∧ e.2.1 ≤ st then (match f with | none => some e | some g => if g.2.1 < e.2.1 then some e else some g) else f
def newestM (es : List Ent) (key : Str) (st : Int) : Option Ent := es.foldl (stepN key st) none
def aheadB (e f : Ent) : Bool := if e.1 = f.1 then decide (f.2.1 < e.2.1) else decide (e.1.cps.toList < f.1.cps.toList)
/-- what the newest is: a candidate, and none has a greater stamp -/
def IsN (es : List Ent) (key : Str) (st : Int) : Option Ent → Prop
  | none => ∀ e ∈ es, ¬ (e.1 = key ∧ e.2.1 ≤ st)
  | some g => g ∈ es ∧ (g.1 = key ∧ g.2.1 ≤ st) ∧ ∀ e ∈ es, e.1 = key ∧ e.2.1 ≤ st → e.2.1 ≤ g.2.1
end L2

set_option Elab.async false
set_option linter.all false
set_option maxRecDepth 100000
set_option maxHeartbeats 4000000
namespace L2
open PySem PySem.Spec PyProof.Rows
section
variable {X : Cx} {K : PySem.W.Frag} {σ : St} {H : Hp} {Q : VK} {o e : Expr} {es : List Expr} {to te : TE} {t : TA} {apos cpos pos p2 : Pos}
/-! ### shifts of great numbers -/
def CShl (i j : Int) : Prop := 0 ≤ j ∧ (Builtin.Int.intBits i : Int) + j ≤ 2 ^ 27
/-! ### texts -/
def rIndex : V → List V → Hp → VK → Prop := fun x vs H Q => ∃ z y i r, x = .str z ∧ vs = [.str y] ∧ Builtin.Str.occurrences z y 0 z.length 1 = i :: r ∧ Q (.int (i : Nat)) H
def rJoin (K : PySem.W.Frag) : V → List V → Hp → VK → Prop := fun x vs H Q => ∃ z p ys, x = .str z ∧ vs = [.ref p] ∧ SqL K H p (ys.map V.str) ∧ (ys.map (·.length)).sum + ys.length * z.length ≤ 16777216 ∧ Q (.str (Txt.join z ys)) H
def rPart : V → List V → Hp → VK → Prop := fun x vs H Q => ∃ z y, x = .str z ∧ vs = [.str y] ∧ (y.length == 0) = false ∧ z.length ≤ sizeLine ∧ ∀ p H1, Same H H1 → H1 p = some (.tup [.str (Txt.partition z y).1, .str (Txt.partition z y).2.1, .str (Txt.partition z y).2.2]) → Q (.ref p) H1
/-! int(text) -/
def rIntT : List V → Hp → VK → Prop := fun xs H Q => ∃ z n, xs = [.str z] ∧ PySem.intText? z = some n ∧ z.length ≤ 640 ∧ Q (.int n) H
/-! methods in boxes -/
/-! ### f-strings -/
abbrev TJ := St → Hp → Str → (Str → Hp → Prop) → Prop
structure BJ (X : Cx) (es : List Expr) (t : TJ) : Prop where
  h : ∀ (pins : List (Addr × Obj)) (s : Shared) (σ : St) (H : Hp) (out : Str) (Q : Str → Hp → Prop), Inv X pins σ H s → t σ H out Q → wpAny (model X.prog X.w) X.A (joinParts out (evalEach es X.env)) (fun u s' => ∃ z H', Inv X pins σ H' s' ∧ RelV (.str z) u ∧ Q z H') X.xe s
def jNil : TJ := fun _ H out Q => out.length ≤ sizeLine ∧ Q out H
def jCons (te : TE) (t : TJ) : TJ := fun σ H out Q => te σ H fun x H1 => ∃ y, x = .str y ∧ (out ++ y).length ≤ sizeLine ∧ t σ H1 (out ++ y) Q
def tFs (t : TJ) : TE := fun σ H Q => t σ H Str.empty fun z H1 => Q (.str z) H1
def tFmt (te : TE) : TE := fun σ H Q => te σ H fun x H1 => (∃ i, x = .int i ∧ i.natAbs.log2 < 1920 ∧ Q (.str (toString i)) H1) ∨ ∃ z, x = .str z ∧ z.length ≤ sizeLine ∧ Q (.str z) H1
/-! ### for x in reversed(xs) -/
def Itv (K : PySem.W.Frag) (a : Addr) (n : Nat) : It :=
  ⟨fun i H => i < n ∧ ∃ xs, SqL K H a xs ∧ xs.length = n, fun i H x H' => H' = H ∧ ∀ xs, SqL K H a xs → xs[n - 1 - i]? = some x, fun i _ => i = n⟩
def iRev (K : PySem.W.Frag) (te : TE) : TI := fun σ H R => te σ H fun x H1 => ∃ a xs, [x] = [V.ref a] ∧ SqL K H1 a xs ∧ R (Itv K a xs.length) H1
instance v1 {te : TE} {F : It → Hp → Prop} : RdS (iRev K te σ H F) (te σ H fun x H1 => ∃ a xs, [x] = [V.ref a] ∧ SqL K H1 a xs ∧ F (Itv K a xs.length) H1) := ⟨id⟩
end
end L2

set_option Elab.async false
set_option linter.all false
set_option maxRecDepth 100000
set_option maxHeartbeats 4000000
namespace L2
open PySem PySem.Spec PyProof.Rows
/-! ### t < u of tuples of texts and ints -/
abbrev At := Sum Str Int
def atV : At → V
  | .inl x => .str x
  | .inr n => .int n
inductive AtsAre : List Value → List At → Prop
  | nil : AtsAre [] []
  | str {us r} (x : Str) (t : Tok) : AtsAre us r → AtsAre (.str x t :: us) (.inl x :: r)
  | int {us r} (n : Int) (t : Tok) : AtsAre us r → AtsAre (.int n t :: us) (.inr n :: r)
theorem AtsAre.length {us : List Value} {as : List At} (h : AtsAre us as) : us.length = as.length := by
  induction h with
  | nil => rfl
  | str _ _ _ ih => simp only [List.length_cons, ih]
  | int _ _ _ ih => simp only [List.length_cons, ih]
/-- of like kinds, place by place -/
def likeA : List At → List At → Prop
  | .inl _ :: xs, .inl _ :: ys => likeA xs ys
  | .inr _ :: xs, .inr _ :: ys => likeA xs ys
  | .inl _ :: _, .inr _ :: _ => False
  | .inr _ :: _, .inl _ :: _ => False
  | _, _ => True
def lexA : List At → List At → Bool
  | [], [] => false
  | [], _ :: _ => true
  | _ :: _, [] => false
  | .inl x :: xs, .inl y :: ys => if x = y then lexA xs ys else decide (x.cps.toList < y.cps.toList)
  | .inr x :: xs, .inr y :: ys => if x = y then lexA xs ys else decide (x < y)
  | _ :: _, _ :: _ => false
section
open PySem.SeqAt
open PySem.AutoSeq1 (wpAny_loadPart')
open PySem.MeetsSeq PySem.MeetsSeq2 PySem.MeetsSeq3
end
section
variable {X : Cx} {K : PySem.W.Frag} {H : Hp} {Q : VK}
def rLtA (K : PySem.W.Frag) : R2 := fun x y H Q => ∃ a b as bs, x = .ref a ∧ y = .ref b ∧ SqT K H a (as.map atV) ∧ SqT K H b (bs.map atV) ∧ likeA as bs ∧ Q (.bl (lexA as bs)) H
end
end L2

set_option Elab.async false
set_option linter.all false
set_option maxRecDepth 100000
set_option maxHeartbeats 4000000
namespace L2
open PySem PySem.Spec PyProof.Rows
/-! ### fours of bits, the lowest first -/
def val : List Nat → Int
  | [] => 0
  | d :: ds => d + 16 * val ds
def okF (ds : List Nat) : Prop := ∀ d ∈ ds, d < 16
theorem okF.take {ds : List Nat} (h : okF ds) (n : Nat) : okF (ds.take n) := fun d hd => h d (List.mem_of_mem_take hd)
theorem okF.drop {ds : List Nat} (h : okF ds) (n : Nat) : okF (ds.drop n) := fun d hd => h d (List.mem_of_mem_drop hd)
def sg (ds : List Nat) : Str := ⟨(ds.map (97 + ·)).toArray⟩
def SIGN : Str := "abcdefghijklmnop"
/-! the sizes' figures -/
def FIG : Str := "0123456789"
end L2

set_option Elab.async false
set_option linter.all false
set_option maxRecDepth 100000
set_option maxHeartbeats 4000000
namespace L2
open PySem PySem.Spec PyProof.Rows
end L2

set_option Elab.async false
set_option linter.all false
set_option maxRecDepth 100000
set_option maxHeartbeats 4000000
namespace L2
open PySem PySem.Spec PyProof.Rows
/-! ### figures, and the texts of sieves as they are read -/
def isFig (c : Nat) : Bool := decide (48 ≤ c ∧ c ≤ 57)
def isSg (c : Nat) : Bool := decide (97 ≤ c ∧ c ≤ 112)
def figB (z : Str) : Bool := decide (z ≠ Str.ofString "") && z.cps.toList.all isFig
def numM (z : Str) : Nat := NumText.digitsVal z.cps.toList
/-- what read_figures tells -/
def rfM (least most : Int) (n : Nat) (z : Str) : Option Int :=
  if z.length ≤ n ∧ figB z = true ∧ ¬ (atI z.cps.toList 0 = some 48 ∧ z ≠ Str.ofString "0") ∧ least ≤ numM z ∧ (numM z : Int) ≤ most then some (numM z : Int) else none
def szM (z : Str) : Option Int := if z.length ≤ 6 ∧ figB z = true ∧ atI z.cps.toList 0 ≠ some 48 ∧ numM z % 8 = 0 then some (numM z : Int) else none
/-! the text parted -/
def pH (z : Str) : Str := (Txt.partition z (Str.ofString ":")).1
def pC (z : Str) : Str := (Txt.partition z (Str.ofString ":")).2.1
def pB (z : Str) : Str := (Txt.partition z (Str.ofString ":")).2.2
def dsOf (z : Str) : List Nat := z.cps.toList.map (· - 97)
def dueM (z : Str) : Option (Int × Int) :=
  match szM (pH z) with
  | none => none
  | some n => if ((pB z).length : Int) = n / 4 ∧ (pB z).cps.toList.all isSg = true then some (n, val (dsOf (pB z))) else none
end L2

set_option Elab.async false
set_option linter.all false
set_option maxRecDepth 100000
set_option maxHeartbeats 4000000
namespace L2
open PySem PySem.Spec PyProof.Rows
open PySem.SeqAt
open PySem.AutoSeq1 (wpAny_loadPart')
open PySem.MeetsSeq PySem.MeetsSeq2 PySem.MeetsSeq3
end L2

set_option Elab.async false
set_option linter.all false
set_option maxRecDepth 100000
set_option maxHeartbeats 4000000
namespace L2
open PySem PySem.Spec PyProof.Rows
section
variable {prog : Program} {w : World} {A : Around} {E : Value → Shared → Prop} {s : Shared} {it : Addr} {z : Str} {t : Tok}
/-- a walk from the end of a text -/
def IsRevS (h : Heap) (it : Addr) (z : Str) (t : Tok) (i : Int) : Prop := h.get? it = some { cls := .type "reversed", data := .fields #[.str z t, rawInt i] }
end
end L2

set_option Elab.async false
set_option linter.all false
set_option maxRecDepth 100000
set_option maxHeartbeats 4000000
namespace L2
open PySem PySem.Spec PyProof.Rows
section
variable {X : Cx} {K : PySem.W.Frag} {σ : St} {H : Hp} {Q : VK} {e : Expr} {te : TE} {pos : Pos}
def Itw (z : Str) : It := ⟨fun i _ => i < z.length, fun i H x H' => H' = H ∧ ∃ c, z.cps.toList[z.length - 1 - i]? = some c ∧ x = .str ⟨#[c]⟩, fun i _ => i = z.length⟩
def iRevS (te : TE) : TI := fun σ H R => te σ H fun x H1 => ∃ z, [x] = [V.str z] ∧ z.length ≤ sizeLine ∧ R (Itw z) H1
instance w1 {te : TE} {F : It → Hp → Prop} : RdS (iRevS te σ H F) (te σ H fun x H1 => ∃ z, [x] = [V.str z] ∧ z.length ≤ sizeLine ∧ F (Itw z) H1) := ⟨id⟩
end
end L2

set_option Elab.async false
set_option linter.all false
set_option maxRecDepth 100000
set_option maxHeartbeats 4000000
namespace L2
open PySem PySem.Spec PyProof.Rows
/-! ### text.replace(a, b), a and b written: their tokens are to be told from 0, so a written text must stand ahead of it -/
structure BP (X : Cx) (e : Expr) (t : TE) : Prop where
  h : ∀ (pins : List (Addr × Obj)) (s : Shared) (σ : St) (H : Hp) (Q : VK), Inv X pins σ H s → 0 < s.toks → t σ H Q → wpAny (model X.prog X.w) X.A (eval e X.env) (fun u s' => 0 < s'.toks ∧ EP X pins σ Q u s') X.xe s
section
variable {X : Cx} {K : PySem.W.Frag} {σ : St} {H : Hp} {Q : VK} {o e : Expr} {es : List Expr} {to te te2 te3 : TE} {t : TA} {apos cpos pos p2 : Pos}
def rRepl : V → List V → Hp → VK → Prop := fun x vs H Q => ∃ a y z, x = .str a ∧ vs = [.str y, .str z] ∧ (y == z) = false ∧ a.length + (a.length + 1) * z.length ≤ 16777216 ∧ (Txt.replace a y z).length ≤ sizeLine ∧ Q (.str (Txt.replace a y z)) H
/-! ### a comprehension over a text, with a test -/
end
end L2

set_option Elab.async false
set_option linter.all false
set_option maxRecDepth 100000
set_option maxHeartbeats 4000000
namespace L2
open PySem PySem.Spec PyProof.Rows
section
variable {K : PySem.W.Frag} {σ : St} {H : Hp} {Q : VK} {ix : List Nat} {te : TE}
/-! ### comprehensions whose items are told by an invariant: W by the turn, the items so far, the heap -/
theorem lcWr {lo : Int} {n : Nat} (W : Nat → List V → Hp → Prop) (hz : n ≤ sizeLine) (h0 : W 0 [] H) (hl : ∀ i ys H', W i ys H' → ys.length = i)
    (hE : ∀ i ys H', i < n → W i ys H' → te (some (.int (lo + i)) :: pick ix σ) H' fun y H5 => W (i + 1) (ys ++ [y]) H5)
    (hQ : ∀ ys p H' H1, W n ys H' → H' p = none → Same H' H1 → H1 p = some (.lst ys) → Q (.ref p) H1) : LcW (Itr lo n) ix σ tYes te Q H := by
  refine ⟨fun i m ys H2 => m = n - i ∧ i ≤ n ∧ W i ys H2, ⟨n, by simp, Nat.zero_le _, h0⟩, ?_⟩
  rintro i m ys H2 ⟨rfl, hi, w⟩
  have e := hl i ys H2 w
  by_cases hlt : i < n
  · refine .inr ⟨hlt, by omega, fun x H3 y => ?_⟩
    obtain ⟨rfl, rfl⟩ := y
    show te _ _ _
    rw [show (fun y H5 => ∃ m', m' < n - i ∧ m' = n - (i + 1) ∧ i + 1 ≤ n ∧ W (i + 1) (ys ++ [y]) H5) = fun y H5 => W (i + 1) (ys ++ [y]) H5 from ?_]
    · exact hE i ys _ hlt w
    · funext y H5
      apply propext
      exact ⟨fun ⟨m', _, _, _, h⟩ => h, fun h => ⟨n - (i + 1), by omega, rfl, hlt, h⟩⟩
  · have : i = n := by omega
    subst this
    exact .inl ⟨by show _ ≤ _; omega, fun D hD => hQ ys D H2 _ w hD (same_new hD) upd_same⟩
/-! ### texts put together -/
end
end L2
namespace L2
open PySem PySem.Spec PyProof.Rows
section
variable {X : Cx} {K : PySem.W.Frag} {σ : St} {H : Hp} {Q : VK}
def rTuple (K : PySem.W.Frag) : List V → Hp → VK → Prop := fun xs H Q => ∃ p ys, xs = [.ref p] ∧ ((SqL K H p ys ∧ ∀ l, H l = none → Q (.ref l) (upd H l (.tup ys))) ∨ (SqT K H p ys ∧ Q (.ref p) H))
theorem rd_repL {p : Addr} {xs : List V} {k : Int} (e : H p = some (.lst xs)) (h1 : 0 ≤ k) (h2 : k ≤ 10000) (hz : xs.length * k.toNat ≤ sizeLine) (h : ∀ l H1, H l = none → Same H H1 → H1 l = some (.lst (List.replicate k.toNat xs).flatten) → Q (.ref l) H1) : rMulP (.ref p) (.int k) H Q :=
  .inr (.inr ⟨p, k, xs, rfl, rfl, e, by omega, by omega, hz, fun l hl => h l _ hl (same_new hl) upd_same⟩)
/-! cuts of lists -/
theorem Reps.rep {H : Hp} {ds : List L2.D} {vs : List V} (r : Reps H ds vs) : ∀ k : Nat, Reps H (List.replicate k ds).flatten (List.replicate k vs).flatten
  | 0 => Reps.nil'
  | k + 1 => by
    rw [List.replicate_succ, List.flatten_cons, List.replicate_succ, List.flatten_cons]
    exact r.append (Reps.rep r k)
end
end L2

set_option Elab.async false
set_option linter.all false
set_option maxRecDepth 100000
set_option maxHeartbeats 4000000
namespace L2
open PySem PySem.Spec PyProof.Rows
section
variable {X : Cx} {scope : Scope} {x : Str} {fv : List Str} {ix : List Nat}
variable {y : Str} {iy : Nat} {py px pos spos : Pos} {elt iter : Expr} {ifs : List Expr} {osc : Scope} {wi : TI} {tt : TT} {te : TE}
end
end L2

set_option Elab.async false
set_option linter.all false
set_option maxRecDepth 100000
set_option maxHeartbeats 4000000
namespace L2
open PySem PySem.Spec PyProof.Rows
section
variable {X : Cx} {K : PySem.W.Frag} {σ : St} {H : Hp} {Q : VK} {e : Expr} {te : TE} {pos : Pos}
/-! ### for k, x in enumerate(xs) -/
def Ite (K : PySem.W.Frag) (a : Addr) : It :=
  ⟨fun i H => ∃ xs x, SqL K H a xs ∧ xs[i]? = some x, fun i H x H' => ∃ p v, x = .ref p ∧ H p = none ∧ (∀ xs, SqL K H a xs → xs[i]? = some v) ∧ H' = upd H p (.tup [.int (i : Int), v]), fun i H => ∃ xs, SqL K H a xs ∧ xs.length ≤ i⟩
def iEnum (K : PySem.W.Frag) (te : TE) : TI := fun σ H R => te σ H fun x H1 => ∃ a, [x] = [V.ref a] ∧ (∃ xs, SqL K H1 a xs) ∧ R (Ite K a) H1
instance y1 {te : TE} {F : It → Hp → Prop} : RdS (iEnum K te σ H F) (te σ H fun x H1 => ∃ a, [x] = [V.ref a] ∧ (∃ xs, SqL K H1 a xs) ∧ F (Ite K a) H1) := ⟨id⟩
end
end L2
namespace L2
open PySem PySem.Spec PyProof.Rows
section
variable {X : Cx} {K : PySem.W.Frag} {σ : St} {H : Hp} {Q : VK} {o e i : Expr} {es : List Expr} {to te ti : TE} {t : TA} {apos cpos pos p2 : Pos}
/-! ### int(truth), text.join(tuple), xs.clear() -/
def rIntB : List V → Hp → VK → Prop := fun xs H Q => ∃ b : Bool, xs = [.bl b] ∧ Q (.int (if b then 1 else 0)) H
def rJoinT (K : PySem.W.Frag) : V → List V → Hp → VK → Prop := fun x vs H Q => ∃ z p ys, x = .str z ∧ vs = [.ref p] ∧ SqT K H p (ys.map V.str) ∧ (ys.map (·.length)).sum + ys.length * z.length ≤ 16777216 ∧ Q (.str (Txt.join z ys)) H
end
end L2
namespace L2
open PySem PySem.Spec PyProof.Rows
section
variable {X : Cx} {K : PySem.W.Frag} {σ : St} {H : Hp} {Q : VK} {o i : Expr} {to ti : TE} {pos : Pos}
instance y3 {T : String} {r : V → List V → Hp → VK → Prop} {to : TE} : RdS (tBM0 K T r to σ H Q) (to σ H fun x H1 => tyV K T x H1 ∧ r x [] H1 Q) := ⟨id⟩
instance y2 {t : TSet} {v : V} {F : St → Hp → Prop} : RdS (gSub to ti t v σ H F) (to σ H fun o H1 => ti σ H1 fun i H2 => t o i v H2 fun H3 => F σ H3) := ⟨id⟩
end
end L2

set_option Elab.async false
set_option linter.all false
set_option maxRecDepth 100000
set_option maxHeartbeats 4000000
namespace L2
open PySem PySem.Spec PyProof.Rows
section
variable {X : Cx} {K : PySem.W.Frag} {σ : St} {H : Hp} {Q : VK} {o e : Expr} {es : List Expr} {to te : TE} {t : TA} {apos cpos pos p2 : Pos}
/-! ### text.zfill(n), text.startswith(text) -/
def rZfill : V → List V → Hp → VK → Prop := fun x vs H Q => ∃ z i, x = .str z ∧ vs = [.int i] ∧ PadOk i = true ∧ Q (.str (Txt.zfill z i)) H
def rStarts : V → List V → Hp → VK → Prop := fun x vs H Q => ∃ z y, x = .str z ∧ vs = [.str y] ∧ Q (.bl (Txt.startswith z y)) H
end
end L2
namespace L2
open PySem PySem.Spec PyProof.Rows
section
variable {σ : St} {H : Hp} {Q : VK} {te : TE} {t : TJ} {out : Str} {F : Str → Hp → Prop}
/-! ### f-strings, read step by step -/
instance z1 : RdS (tFs t σ H Q) (t σ H Str.empty fun z H1 => Q (.str z) H1) := ⟨id⟩
instance z2 : RdS (jCons te t σ H out F) (te σ H fun x H1 => ∃ y, x = .str y ∧ (out ++ y).length ≤ sizeLine ∧ t σ H1 (out ++ y) F) := ⟨id⟩
instance z3 : RdS (tFmt te σ H Q) (te σ H fun x H1 => (∃ i, x = .int i ∧ i.natAbs.log2 < 1920 ∧ Q (.str (toString i)) H1) ∨ ∃ z, x = .str z ∧ z.length ≤ sizeLine ∧ Q (.str z) H1) := ⟨id⟩
end
end L2

set_option Elab.async false
set_option linter.all false
set_option maxRecDepth 100000
set_option maxHeartbeats 4000000
namespace L2
open PySem PySem.Spec PyProof.Rows
/-! ### numbers with noughts ahead -/
def padL (n : Nat) : Nat → List Nat
  | 0 => []
  | i + 1 => (48 + n / 10 ^ i % 10) :: padL n i
theorem padL_len (n k : Nat) : (padL n k).length = k := by
  induction k with
  | zero => rfl
  | succ k ih => simp only [padL, List.length_cons, ih]
theorem padL_dig (n k : Nat) : NumText.AllDigits (padL n k) := by
  induction k with
  | zero => intro c hc; cases hc
  | succ k ih =>
    intro c hc
    rcases List.mem_cons.mp hc with rfl | h
    · omega
    · exact ih c h
theorem foldl_pad (n : Nat) : ∀ (k a : Nat), (padL n k).foldl (fun acc c => acc * 10 + (c - 48)) a = a * 10 ^ k + n % 10 ^ k
  | 0, a => by simp [padL, Nat.mod_one]
  | k + 1, a => by
    simp only [padL, List.foldl_cons]
    rw [foldl_pad n k, Nat.add_sub_cancel_left]
    have h1 := Nat.div_add_mod n (10 ^ k)
    have h2 := Nat.div_add_mod (n / 10 ^ k) 10
    have h3 : n % 10 ^ (k + 1) = n % 10 ^ k + 10 ^ k * (n / 10 ^ k % 10) := by
      rw [Nat.pow_succ, Nat.mod_mul]
    rw [h3, Nat.pow_succ, Nat.add_mul, Nat.mul_assoc, Nat.mul_comm 10 (10 ^ k), Nat.mul_comm (n / 10 ^ k % 10) (10 ^ k)]
    omega
theorem padL_val {n k : Nat} (h : n < 10 ^ k) : NumText.digitsVal (padL n k) = n := by
  unfold NumText.digitsVal
  rw [foldl_pad, Nat.mod_eq_of_lt h]
  omega
theorem drop48 : ∀ cs : List Nat, cs = List.replicate (cs.length - (cs.dropWhile (· == 48)).length) 48 ++ cs.dropWhile (· == 48)
  | [] => rfl
  | c :: cs => by
    by_cases h : c = 48
    · subst h
      have ih := drop48 cs
      have hl : (cs.dropWhile (· == 48)).length ≤ cs.length := (List.dropWhile_sublist _).length_le
      rw [List.dropWhile_cons_of_pos (by simp), List.length_cons, show cs.length + 1 - (cs.dropWhile (· == 48)).length = (cs.length - (cs.dropWhile (· == 48)).length) + 1 by omega, List.replicate_succ, List.cons_append, ← ih]
    · rw [List.dropWhile_cons_of_neg (by simpa using h)]
      simp
def padS (n k : Nat) : Str := ⟨(padL n k).toArray⟩
/-- the figures of a number -/
theorem num_list (n : Nat) : (Str.ofString (toString (n : Int))).cps.toList = (Nat.toDigits 10 n).map Char.toNat := PySem.W.KIN.signs_num n
theorem map_back : ∀ {cs : List Nat}, NumText.AllDigits cs → (cs.map Char.ofNat).map Char.toNat = cs
  | [], _ => rfl
  | c :: cs, h => by
    have hc := h c List.mem_cons_self
    have : (Char.ofNat c).toNat = c := by
      obtain ⟨d, rfl⟩ : ∃ d, c = 48 + d := ⟨c - 48, by omega⟩
      have hd : d < 10 := by omega
      match d, hd with
      | 0, _ => rfl
      | 1, _ => rfl
      | 2, _ => rfl
      | 3, _ => rfl
      | 4, _ => rfl
      | 5, _ => rfl
      | 6, _ => rfl
      | 7, _ => rfl
      | 8, _ => rfl
      | 9, _ => rfl
    rw [List.map_cons, List.map_cons, this, map_back fun x hx => h x (List.mem_cons_of_mem _ hx)]
theorem num_pad {n k : Nat} (h : n < 10 ^ k) (hk : 1 ≤ k) : padL n k = List.replicate (k - (Str.ofString (toString (n : Int))).length) 48 ++ (Str.ofString (toString (n : Int))).cps.toList := by
  have hd := padL_dig n k
  have ha := NumText.toDigits_all (padL n k) hd
  rw [padL_val h] at ha
  have e := drop48 (padL n k)
  rw [padL_len] at e
  rw [len_list, num_list, ha]
  cases hc : (padL n k).dropWhile (· == 48) with
  | nil =>
    rw [hc] at e
    simp only [List.length_nil, Nat.sub_zero, List.append_nil] at e
    rw [e]
    obtain ⟨m, rfl⟩ : ∃ m, k = m + 1 := ⟨k - 1, by omega⟩
    show List.replicate (m + 1) 48 = List.replicate (m + 1 - 1) 48 ++ [48]
    rw [Nat.add_sub_cancel, List.replicate_succ']
  | cons c r =>
    rw [hc] at e
    have hcr : NumText.AllDigits (c :: r) := fun x hx => hd x (by rw [e]; exact List.mem_append_right _ hx)
    simp only
    rw [map_back hcr]
    exact e
end L2

set_option Elab.async false
set_option linter.all false
set_option maxRecDepth 100000
set_option maxHeartbeats 4000000
namespace L2
open PySem PySem.Spec PyProof.Rows
/-! ### cuts of texts, numbers read back -/
end L2

set_option Elab.async false
set_option linter.all false
set_option maxRecDepth 100000
set_option maxHeartbeats 4000000
namespace L2
open PySem PySem.Spec PyProof.Rows
section
variable {X : Cx} {K : PySem.W.Frag} {σ : St} {H : Hp} {Q : VK} {o e : Expr} {es : List Expr} {to te : TE} {t : TA} {apos cpos pos p2 : Pos}
/-! ### text.split(text) -/
def rSplit : V → List V → Hp → VK → Prop := fun x vs H Q => ∃ z y, x = .str z ∧ vs = [.str y] ∧ (y.length == 0) = false ∧ z.length + 2 ≤ sizeLine ∧ ∀ p H1, H p = none → Same H H1 → H1 p = some (.lst ((Txt.split z y).map V.str)) → Q (.ref p) H1
end
/-! ### the rows of a text -/
def glue (c : Nat) : List (List Nat) → List Nat
  | [] => []
  | [a] => a
  | a :: b :: r => a ++ c :: glue c (b :: r)
end L2

set_option Elab.async false
set_option linter.all false
set_option maxRecDepth 100000
set_option maxHeartbeats 4000000
namespace L2
open PySem PySem.Spec PyProof.Rows
def endsL (c : Nat) : List (List Nat) → List Nat
  | [] => []
  | r :: rs => r ++ c :: endsL c rs
end L2

set_option Elab.async false
set_option linter.all false
set_option maxRecDepth 100000
set_option maxHeartbeats 4000000
namespace L2
open PySem PySem.Spec PyProof.Rows
section
variable {X : Cx} {K : PySem.W.Frag} {σ : St} {H : Hp} {Q : VK}
/-! ### sorted(a list of whole numbers), sorted(a list of texts): fewer than 64 -/
theorem Vals.len {xs : List V} {us : List Value} (h : Vals xs us) : us.length = xs.length := by
  induction h with
  | nil => rfl
  | cons _ _ ih => simp only [List.length_cons, ih]
def rSortI (K : PySem.W.Frag) : List V → Hp → VK → Prop := fun xs H Q => ∃ p ns, xs = [.ref p] ∧ SqL K H p (ns.map V.int) ∧ ns.length < 64 ∧ ∀ ns' l H1, ns'.Perm ns → List.Pairwise (fun x y => x ≤ y) ns' → H l = none → Same H H1 → H1 l = some (.lst (ns'.map V.int)) → Q (.ref l) H1
def rSortS (K : PySem.W.Frag) : List V → Hp → VK → Prop := fun xs H Q => ∃ p ns, xs = [.ref p] ∧ SqL K H p (ns.map V.str) ∧ ns.length < 64 ∧ ∀ ns' l H1, ns'.Perm ns → sortedS ns' = true → H l = none → Same H H1 → H1 l = some (.lst (ns'.map V.str)) → Q (.ref l) H1
end
end L2

set_option Elab.async false
set_option linter.all false
set_option maxRecDepth 100000
set_option maxHeartbeats 4000000
namespace L2
open PySem PySem.Spec PyProof.Rows
section
variable {X : Cx} {K : PySem.W.Frag} {σ : St} {H : Hp} {Q : VK} {o e : Expr} {es : List Expr} {to te : TE} {t : TA} {apos cpos pos p2 : Pos}
/-! ### text.endswith(text); what begins and ends with what -/
def rEnds : V → List V → Hp → VK → Prop := fun x vs H Q => ∃ z y, x = .str z ∧ vs = [.str y] ∧ Q (.bl (Txt.endswith z y)) H
end
end L2

set_option Elab.async false
set_option linter.all false
set_option maxRecDepth 100000
set_option maxHeartbeats 4000000
namespace L2
open PySem PySem.Spec PyProof.Rows
end L2

set_option Elab.async false
set_option linter.all false
set_option maxRecDepth 100000
set_option maxHeartbeats 4000000
namespace L2
open PySem PySem.Spec PyProof.Rows
section
variable {K : PySem.W.Frag} {σ : St} {H : Hp} {Q : VK} {ix : List Nat} {te : TE} {tt : TT}
/-! ### comprehensions with a test, told by an invariant -/
end
end L2

set_option Elab.async false
set_option linter.all false
set_option maxRecDepth 100000
set_option maxHeartbeats 4000000
namespace L2
open PySem PySem.Spec PyProof.Rows
section
variable {X : Cx} {K : PySem.W.Frag} {σ : St} {H : Hp} {Q : VK}
/-! ### set(a list of whole numbers), and how many it has -/
def rSetI (K : PySem.W.Frag) : List V → Hp → VK → Prop := fun xs H Q => ∃ (p : Addr) (ns : List Int), xs = [.ref p] ∧ SqL K H p (ns.map V.int) ∧ ns.length < 4000 ∧ ns.Nodup ∧ ∀ S l H1, H l = none → Same H H1 → H1 l = some (.set S ns.length) → Q (.ref l) H1
def rLenI : List V → Hp → VK → Prop := fun xs H Q => ∃ p S n, xs = [.ref p] ∧ H p = some (.set S n) ∧ n < 4000 ∧ Q (.int (n : Nat)) H
end
end L2

set_option Elab.async false
set_option linter.all false
set_option maxRecDepth 100000
set_option maxHeartbeats 4000000
namespace PySem
open PySem PySem.Spec PySem.AutoSeq1
end PySem
namespace L2
open PySem PySem.Spec PyProof.Rows
section
variable {X : Cx} {K : PySem.W.Frag} {σ : St} {H : Hp} {Q : VK} {o e : Expr} {es : List Expr} {to te : TE} {t : TA} {apos cpos pos p2 : Pos}
/-! ### list.extend(a list), list.extend(a tuple) -/
def rExtendT (K : PySem.W.Frag) : V → List V → Hp → VK → Prop := fun x vs H Q => ∃ l b xs zs, x = .ref l ∧ vs = [.ref b] ∧ H l = some (.lst xs) ∧ SqT K H b zs ∧ xs.length + zs.length ≤ sizeLine ∧ Q .non (upd H l (.lst (xs ++ zs)))
/-! ### x in a list of whole numbers -/
end
end L2

set_option Elab.async false
set_option linter.all false
set_option maxRecDepth 100000
set_option maxHeartbeats 4000000
namespace L2
open PySem PySem.Spec PyProof.Rows
/-! ### a number's own figures -/
def numT (n : Nat) : Str := Str.ofString (toString (n : Int))
theorem numT_le {n k : Nat} (h : n < 10 ^ k) (hk : 1 ≤ k) : (numT n).length ≤ k := by
  have e := congrArg List.length (num_pad h hk)
  rw [padL_len, List.length_append, List.length_replicate] at e
  have : (Str.ofString (toString (n : Int))).cps.toList.length = (numT n).length := (len_list _).symm
  rw [this] at e
  have e2 : (Str.ofString (toString (n : Int))).length = (numT n).length := rfl
  omega
end L2

set_option Elab.async false
set_option linter.all false
set_option maxRecDepth 100000
set_option maxHeartbeats 4000000
namespace L2
open PySem PySem.Spec PyProof.Rows
/-! ### an exception in flight: its object, its own dict, the newest row of its trace -/
def FlyT (h : Heap) (ea T : Addr) (cls : Value) (dc : Option Addr) : Prop := ∃ oe vs oT ts, h.get? ea = some oe ∧ oe.cls = cls ∧ oe.dict = dc ∧ oe.data = .fields vs ∧ vs[1]? = some (.ref T) ∧ T ≠ ea ∧ h.get? T = some oT ∧ oT.data = .fields ts ∧ ts[3]? = some .none ∧ vs[2]? = some .none
/-- what a change by a flight leaves: all but the exception, the newest row and the frames, of which the slots may change -/
structure Flown (fs : List Addr) (ea T : Addr) (h h' : Heap) : Prop where
  keep : ∀ b o, h.get? b = some o → b ≠ ea → b ≠ T → b ∉ fs → h'.get? b = some o
  slot : ∀ b o, h.get? b = some o → b ∈ fs → ∃ sl, h'.get? b = some { o with slots := sl }
theorem mapF_dict (f : Array Value → Array Value) (o : Obj) : (Obj.mapFields f o).dict = o.dict := by
  unfold Obj.mapFields
  split <;> rfl
section
variable {M : Model} {A : Around} {E : Value → Shared → Prop} {s : Shared} {Q : Unit → Shared → Prop} {env : Env} {outer : List Env} {base : Heap} {L ea T : Addr}
/-- a frame holds no record -/
theorem frame_no {l : List Env} {b : Addr} {o : Obj} {vs : Array Value} (hl : s.heap.FunFrames base l) (e : s.heap.get? b = some o) (d : o.data = .fields vs) : b ∉ frs l := fun hm => by
  obtain ⟨_, o2, ho2, hn2⟩ := hl.mem hm
  rw [e] at ho2
  cases ho2
  exact hn2 vs d
/-- a row is made and put ahead of the trace -/
theorem fly_row {oe : Obj} {vs : Array Value} {hd : Value} {b : Bool} (hfr : A.frames = some (env :: outer)) (hf : env.frame = some L) (hl : s.heap.FunFrames base (env :: outer))
    (he : s.heap.get? ea = some oe) (hv : oe.data = .fields vs) (hz : 1 < vs.size)
    (hQ : ∀ h1 T1 oT ts, s.heap.get? T1 = none → T1 ≠ ea → h1.get? ea = some (Obj.mapFields (·.setIfInBounds 1 (.ref T1)) oe) → h1.get? T1 = some oT → oT.data = .fields ts → 3 < ts.size → (∀ c o, s.heap.get? c = some o → c ≠ ea → c ∉ frs (env :: outer) → h1.get? c = some o) →
      (∀ c o, s.heap.get? c = some o → c ∈ frs (env :: outer) → ∃ sl, h1.get? c = some { o with slots := sl }) → Q () { s with heap := h1 }) :
    wpAny M A (do let x ← frameOf env; let pl ← entryPlaceOf L b; let y ← EntryCells.newEntry hd x .none (rawInt L) .none pl; setField (.ref ea) 1 y) Q E s := by
  refine wpAny_bind (wpAny_frameOf_fun hfr hl hf fun h0 so => ?_)
  refine wpAny_bind (wpAny_entryPlaceOf fun pl hpl => ?_)
  unfold EntryCells.newEntry newFields
  refine wpAny_bind (wpAny_newObj_type ?_ (hpl.sizeOk5 _ _ _ _ _))
  have hnf : ea ∉ frs (env :: outer) := frame_no hl he hv
  have e0 : h0.get? ea = some oe := (so.2.1 ea hnf).trans he
  obtain ⟨ot, hot⟩ : ∃ ot : Obj, ot = { cls := .type "traceback", dict := none, data := .fields ([hd, .ref L, .none, rawInt L, .none] ++ (if pl.isEmpty then List.replicate 6 Value.none else pl)).toArray } := ⟨_, rfl⟩
  rw [← hot]
  have hne : h0.objs.size ≠ ea := Nat.ne_of_gt (Heap.lt_size e0)
  have e1 : (h0.push ot).get? ea = some oe := Heap.get?_push_of_some _ e0
  refine wpAny_setField e1 hv hz ?_
  have fr : Obj.isFreed (Obj.mapFields (·.setIfInBounds 1 (Value.ref h0.objs.size)) oe) = false := Obj.isFreed_of_fields (Obj.data_mapFields hv _)
  refine hQ _ h0.objs.size ot _ (by rw [so.1]; exact Heap.get?_none_of_le (Nat.le_refl _)) hne (Heap.get?_update_self _ e1 fr) ?_ (by rw [hot]) ?_ (fun c o q n1 n2 => ?_) fun c o q hm => ?_
  · rw [Heap.get?_update_other _ _ (Ne.symm hne)]
    exact Heap.get?_push_size h0 (by rw [hot]; rfl)
  · simp only [List.size_toArray, List.length_append, List.length_cons, List.length_nil]
    omega
  · rw [Heap.get?_update_other _ _ (Ne.symm n1)]
    exact Heap.get?_push_of_some _ ((so.2.1 c n2).trans q)
  · obtain ⟨sl, q1⟩ := so.2.2 c o q
    have hce : ea ≠ c := fun z => hnf (by rw [z]; exact hm)
    exact ⟨sl, by rw [Heap.get?_update_other _ _ hce]; exact Heap.get?_push_of_some _ q1⟩
/-- the flight is noted as over -/
theorem fly_over {oe oT : Obj} {vs ts : Array Value} (he : s.heap.get? ea = some oe) (hv : oe.data = .fields vs) (h1 : vs[1]? = some (.ref T)) (hT : s.heap.get? T = some oT) (hd : oT.data = .fields ts) (hz : 3 < ts.size)
    (hQ : ∀ h1, (∀ c, c ≠ T → h1.get? c = s.heap.get? c) → h1.get? T = some (Obj.mapFields (·.setIfInBounds 3 .none) oT) → Q () { s with heap := h1 }) : wpAny M A (setFlight (.ref ea) none) Q E s := by
  unfold setFlight
  refine wpAny_bind (wpAny_field he hv h1 ?_)
  rw [if_pos (show (Value.ref T != Value.none) = true from by simp)]
  refine wpAny_setField hT hd hz ?_
  exact hQ _ (fun c n => Heap.get?_update_other _ _ (Ne.symm n)) (Heap.get?_update_self _ hT (Obj.isFreed_of_fields (Obj.data_mapFields hd _)))
/-- a row put ahead, then over -/
theorem fly_both {oe : Obj} {vs : Array Value} {hd cls : Value} {dc : Option Addr} {b : Bool} (hfr : A.frames = some (env :: outer)) (hf : env.frame = some L) (hl : s.heap.FunFrames base (env :: outer))
    (he : s.heap.get? ea = some oe) (hc : oe.cls = cls) (hdc : oe.dict = dc) (hv : oe.data = .fields vs) (hz : 1 < vs.size) (h2v : vs[2]? = some .none)
    (hQ : ∀ h1 T1, FlyT h1 ea T1 cls dc → s.heap.get? T1 = none → (∀ c o, s.heap.get? c = some o → c ≠ ea → c ∉ frs (env :: outer) → h1.get? c = some o) →
      (∀ c o, s.heap.get? c = some o → c ∈ frs (env :: outer) → ∃ sl, h1.get? c = some { o with slots := sl }) → Q () { s with heap := h1 }) :
    wpAny M A (do let x ← frameOf env; let pl ← entryPlaceOf L b; let y ← EntryCells.newEntry hd x .none (rawInt L) .none pl; setField (.ref ea) 1 y) (fun _ s1 => wpAny M A (setFlight (.ref ea) none) Q E s1) E s := by
  refine fly_row hfr hf hl he hv hz fun h1 T1 oT ts n0 n1 g1 g2 g3 g4 k1 k2 => ?_
  have d1 := Obj.data_mapFields hv (·.setIfInBounds 1 (Value.ref T1))
  refine fly_over (s := { s with heap := h1 }) g1 d1 (T := T1) (by simp [hz]) g2 g3 g4 fun h2 o2 t2 => ?_
  refine hQ h2 T1 ⟨_, _, _, _, (o2 _ (Ne.symm n1)).trans g1, by rw [Obj.cls_mapFields]; exact hc, by rw [mapF_dict]; exact hdc, d1, by simp [hz], n1, t2, Obj.data_mapFields g3 _, by simp [g4], by rw [Array.getElem?_setIfInBounds_ne (by decide)]; exact h2v⟩ n0 (fun c o q a1 a2 => ?_) fun c o q hm => ?_
  · exact (o2 c (fun z => by rw [z, n0] at q; cases q)).trans (k1 c o q a1 a2)
  · obtain ⟨sl, q1⟩ := k2 c o q hm
    exact ⟨sl, (o2 c (fun z => by rw [z, n0] at q; cases q)).trans q1⟩
/-- the newest row is no longer in flight; then a new one, over too -/
theorem fly_next {cls : Value} {dc : Option Addr} (hfr : A.frames = some (env :: outer)) (hf : env.frame = some L) (hl : s.heap.FunFrames base (env :: outer))
    (F : FlyT s.heap ea T cls dc) (hQ : ∀ h' T', FlyT h' ea T' cls dc → (T' = T ∨ s.heap.get? T' = none) → Flown (frs (env :: outer)) ea T s.heap h' → Q () { s with heap := h' }) :
    wpAny M A (noteFrame (.ref ea) env) (fun _ s1 => wpAny M A (setFlight (.ref ea) none) Q E s1) E s := by
  obtain ⟨oe, vs, oT, ts, he, hc, hdc, hv, h1, hTe, hT, hdT, h3, h2v⟩ := F
  have z3 : 3 < ts.size := (Array.getElem?_eq_some_iff.mp h3).1
  unfold noteFrame
  simp only [hf]
  refine wpAny_bind (wpAny_field he hv h1 ?_)
  rw [if_pos (show (Value.ref T != Value.none) = true from by simp)]
  refine wpAny_bind (wpAny_field hT hdT h3 ?_)
  rw [if_neg (show ¬ ((Value.none == rawInt L) = true) from by simp [rawInt])]
  refine wpAny_bind (wpAny_setField hT hdT z3 ?_)
  have ot : ∀ c, c ≠ T → (s.heap.update T (Obj.mapFields (·.setIfInBounds 3 Value.none))).get? c = s.heap.get? c := fun c n => Heap.get?_update_other _ _ (Ne.symm n)
  have sT : (s.heap.update T (Obj.mapFields (·.setIfInBounds 3 Value.none))).get? T = some (Obj.mapFields (·.setIfInBounds 3 Value.none) oT) := Heap.get?_update_self _ hT (Obj.isFreed_of_fields (Obj.data_mapFields hdT _))
  have hTf : T ∉ frs (env :: outer) := frame_no hl hT hdT
  have hl1 : (s.heap.update T (Obj.mapFields (·.setIfInBounds 3 Value.none))).FunFrames base (env :: outer) := hl.of_keeps fun c o q hn => ⟨o, (ot c (fun z => by rw [z, hT] at q; cases q; exact hn _ hdT)).trans q, rfl⟩
  refine fly_both (s := { s with heap := s.heap.update T (Obj.mapFields (·.setIfInBounds 3 Value.none)) }) hfr hf hl1 ((ot ea (Ne.symm hTe)).trans he) hc hdc hv (Array.getElem?_eq_some_iff.mp h1).1 h2v fun h2 T2 F2 n2 k1 k2 => ?_
  refine hQ h2 T2 F2 (.inr ?_) ⟨fun c o q a1 a2 a3 => k1 c o ((ot c a2).trans q) a1 a3, fun c o q hm => k2 c o ((ot c (fun z => hTf (by rw [← z]; exact hm))).trans q) hm⟩
  by_cases z : T2 = T
  · subst z; rw [sT] at n2; cases n2
  · rw [← ot T2 z]; exact n2
/-- the first frame that it leaves -/
theorem fly_first {oe : Obj} {t0 : Value} {r : List Value} {cls : Value} {dc : Option Addr} (hfr : A.frames = some (env :: outer)) (hf : env.frame = some L) (hl : s.heap.FunFrames base (env :: outer))
    (he : s.heap.get? ea = some oe) (hc : oe.cls = cls) (hdc : oe.dict = dc) (hv : oe.data = .fields (t0 :: Value.none :: Value.none :: r).toArray)
    (hQ : ∀ h' T', FlyT h' ea T' cls dc → s.heap.get? T' = none → Flown (frs (env :: outer)) ea ea s.heap h' → Q () { s with heap := h' }) : wpAny M A (leaving env (.ref ea)) Q E s := by
  unfold leaving noteFrame
  simp only [hf]
  refine wpAny_bind (wpAny_bind (wpAny_field he hv (x := .none) (by simp) ?_))
  rw [if_neg (by decide)]
  exact fly_both hfr hf hl he hc hdc hv (by simp) (by simp) fun h1 T1 F1 n1 k1 k2 => hQ h1 T1 F1 n1 ⟨fun c o q a1 _ a3 => k1 c o q a1 a3, k2⟩
end
end L2

set_option Elab.async false
set_option linter.all false
set_option maxRecDepth 100000
set_option maxHeartbeats 4000000
namespace L2
open PySem PySem.Spec PyProof.Rows
theorem ObjOk.some {P : Program} {w : World} {H : Hp} {h : Heap} {a : Addr} {o : HO} (x : ObjOk P w H h a o) : ∃ ob, h.get? a = Option.some ob := by
  cases o with
  | lst xs => obtain ⟨_, _, _, _, e⟩ := x; exact ⟨_, e⟩
  | tup xs => obtain ⟨_, _, _, ob, e, _⟩ := x; exact ⟨_, e⟩
  | dK kvs => obtain ⟨_, _, _, _, o, _, _, e, _⟩ := x; exact ⟨_, e⟩
  | dT kvs => obtain ⟨_, _, _, _, o, _, _, e, _⟩ := x; exact ⟨_, e⟩
  | set S n => obtain ⟨o, _, _, _, e, _⟩ := x; exact ⟨_, e⟩
  | ins C dx fs => obtain ⟨_, _, _, e, _⟩ := x; exact ⟨_, e⟩
  | own y => obtain ⟨_, e⟩ := x; exact ⟨_, e⟩
  | xd fs => obtain ⟨_, ⟨_, _, _, e, _⟩, _⟩ := x; exact ⟨_, e⟩
  | rng lo hi => obtain ⟨_, _, _, e⟩ := x; exact ⟨_, e⟩
  | frz ob u => obtain ⟨e, _⟩ := x; exact ⟨_, e⟩
  | tbl ps => exact ⟨_, (show h.get? a = Option.some _ from x)⟩
  | met f y => exact ⟨_, (show h.get? a = Option.some _ from x)⟩
  | ext φ => obtain ⟨_, ⟨_, e⟩, _⟩ := x; exact ⟨_, e⟩
theorem HOk.none_of {P : Program} {w : World} {H : Hp} {h : Heap} {a : Addr} (x : HOk P w H h) (e : h.get? a = none) : H a = none := by
  cases q : H a with
  | none => rfl
  | some u =>
    obtain ⟨ob, e'⟩ := (x a u q).some
    rw [e] at e'
    cases e'
theorem HOk.flown {P : Program} {w : World} {H : Hp} {h h' : Heap} {fs : List Addr} {ea T : Addr} (x : HOk P w H h) (F : Flown fs ea T h h') (n1 : H ea = none) (n2 : H T = none) (n3 : ∀ b ∈ fs, H b = none) : HOk P w H h' := fun a o e => by
  have go : ∀ b u v, H b = some v → h.get? b = some u → h'.get? b = some u := fun b u v q r => F.keep b u r (ne_of_none q n1) (ne_of_none q n2) fun z => by rw [n3 b z] at q; cases q
  refine (x a o e).stay (fun b u hb q => ?_) (fun _ q => q) fun _ _ q => q
  rcases hb with rfl | hb
  · exact go b u o e q
  · exact go b u _ hb q
theorem Un.flown {fs : List Addr} {H H1 : Hp} {h0 h h' : Heap} {ea T L : Addr} (u : Un fs [] H H1 h0 h) (F : Flown (L :: fs) ea T h h') (hea : h0.get? ea = none) (hT : h0.get? T = none) (hL : h0.get? L = none) : Un fs [] H H1 h0 h' := by
  have ne : ∀ b o c, h0.get? b = some o → h0.get? c = none → b ≠ c := fun b o c e n z => by rw [z, n] at e; cases e
  refine ⟨fun b o e n hb hx => ?_, fun b o e n hb hx => ?_, u.free, fun b o e hx => ?_, u.tups, u.frzs, u.tbls⟩
  · exact F.keep b o (u.keep b o e n hb hx) (ne b o ea e hea) (ne b o T e hT) fun z => by
      rcases List.mem_cons.mp z with z | z
      · exact ne b o L e hL z
      · exact hb z
  · obtain ⟨sl, e1⟩ := u.slot b o e n hb hx
    obtain ⟨sl', e2⟩ := F.slot b _ e1 (List.mem_cons_of_mem _ hb)
    exact ⟨sl', e2⟩
  · obtain ⟨o1, e1⟩ := u.there b o e hx
    by_cases hm : b ∈ L :: fs
    · obtain ⟨sl, e2⟩ := F.slot b o1 e1 hm
      exact ⟨_, e2⟩
    · exact ⟨o1, F.keep b o1 e1 (ne b o ea e hea) (ne b o T e hT) hm⟩
/-- how an exception lies behind a call -/
def CXE (P : Program) (w : World) : CXT := fun outer H s E e s' => ∃ (ea T : Addr) (cls : Value) (dc : Option Addr) (H' : Hp), e = .ref ea ∧ s'.os = s.os ∧ AllBare s'.gens ∧ Un (frs outer) [] H H' s.heap s'.heap ∧ HOk P w H' s'.heap ∧ FlyT s'.heap ea T cls dc ∧
  s.heap.get? ea = none ∧ s.heap.get? T = none ∧ H' ea = none ∧ H' T = none ∧ E cls dc H'
section
variable {P : Program} {w : World} {K : PySem.W.Frag} {mg : Str → Option Value} {base : Heap} {N : List Str} {q : Str} {sc : Scope} {f : Addr} {cd : Value} {A : Around} {outer : List Env} {s₀ : Shared} {H₀ : Hp} {E : XK}
/-- what was not there at the entry -/
theorem Inv.new0 {X : Cx} {pins : List (Addr × Obj)} {σ : St} {H : Hp} {s : Shared} (I : Inv X pins σ H s) (hx : X.ex = []) {b : Addr} (e : s.heap.get? b = none) : X.s₀.heap.get? b = none := by
  cases r : X.s₀.heap.get? b with
  | none => rfl
  | some o =>
    obtain ⟨o', e'⟩ := I.base.there b o r (by rw [hx]; simp)
    rw [e] at e'
    cases e'
/-- raised here: it leaves the def -/
theorem raised_here {pins : List (Addr × Obj)} {σ : St} {H : Hp} {s : Shared} {ea : Addr} {oe : Obj} {t0 cls : Value} {r : List Value} {dc : Option Addr} (I : Inv (cxOf (CXE P w) P w K mg base N q sc f cd A outer s₀ H₀ E) pins σ H s) (he : s.heap.get? ea = some oe) (hc : oe.cls = cls) (hdc : oe.dict = dc)
    (hv : oe.data = .fields (t0 :: Value.none :: Value.none :: r).toArray) (nea : H ea = none) (n0 : s₀.heap.get? ea = none) (hE : E cls dc H) :
    (cxOf (CXE P w) P w K mg base N q sc f cd A outer s₀ H₀ E).xe (.ref ea) s := by
  show wpAny (model P w) _ (leaving _ (.ref ea)) (fun _ s'' => CXE P w outer H₀ s₀ E (.ref ea) s'') _ _
  refine fly_first I.ok.frames rfl I.stack he hc hdc hv fun h' T' F hT' Fl => ?_
  have nT : H T' = none := I.hok.none_of hT'
  have nL : s₀.heap.get? s₀.heap.objs.size = none := Heap.get?_none_of_le (Nat.le_refl _)
  exact ⟨ea, T', cls, dc, H, rfl, I.os, I.bare, I.base.flown Fl n0 n0 nL, I.hok.flown Fl nea nea I.stkFree, F, n0, I.new0 rfl hT', nea, nT, hE⟩
end
end L2

set_option Elab.async false
set_option linter.all false
set_option maxRecDepth 100000
set_option maxHeartbeats 4000000
namespace L2
open PySem PySem.Spec PyProof.Rows
abbrev veMro : List Value := [.type "ValueError", .type "Exception", .type "BaseException", .type "object"]
/-- an own error class without an __init__ of its own, under ValueError -/
structure ExC (K : PySem.W.Frag) (mg : Str → Option Value) (x : Str) (C : Addr) : Prop where
  mgx : mg x = some (.ref C)
  ei : PySem.W.excIn K C veMro "ValueError.__new__" = true
/-- an exception that was made here leaves: its class, its own dict, the heap -/
def Throws (X : Cx) (E : XK) : Prop := ∀ (pins : List (Addr × Obj)) (σ : St) (H H0 : Hp) (s s0 : Shared) (ea : Addr) (oe : Obj) (t0 cls : Value) (r : List Value) (dc : Option Addr), Inv X pins σ H s → Inv X pins σ H0 s0 → s0.heap.get? ea = none → s.heap.get? ea = some oe → oe.cls = cls → oe.dict = dc → oe.data = .fields (t0 :: Value.none :: Value.none :: r).toArray → H ea = none → E cls dc H → X.xe (.ref ea) s
theorem throws_of {P : Program} {w : World} {K : PySem.W.Frag} {mg : Str → Option Value} {base : Heap} {N : List Str} {q : Str} {sc : Scope} {f : Addr} {cd : Value} {A : Around} {outer : List Env} {s₀ : Shared} {H₀ : Hp} {E : XK} : Throws (cxOf (CXE P w) P w K mg base N q sc f cd A outer s₀ H₀ E) E :=
  fun _ _ _ _ _ _ _ _ _ _ _ _ I I0 n he hc hdc hv nea hE => raised_here I he hc hdc hv nea (I0.new0 rfl n) hE
section
variable {X : Cx} {x : Str} {C : Addr} {E : XK} {e : Expr} {es : List Expr} {t : TA} {np cpos pos : Pos} {K : PySem.W.Frag} {σ : St} {H : Hp} {D : Ends}
def mkR (E : XK) (C : Addr) (vs : List V) (H : Hp) : Prop := vs.length ≤ sizeLine ∧ E (.ref C) none H
def tRaise (E : XK) (C : Addr) (t : TA) : TS := fun _ σ H => t σ H fun vs H1 => mkR E C vs H1
theorem bs_raise (hT : Throws X E) (hc : X.calm = true) (c : ExC X.K X.mg x C) (ha : BA X (e :: es) t) (hg : Gl X x := by rfl) (hdb : (x == ("__debug__" : Str)) = false := by decide) (h1 : isStar e = false := by rfl) (h2 : noStar es = true := by rfl) :
    BS X (.Raise (some (.Call (.Name x np) (e :: es) [] cpos)) none pos) (tRaise E C t) := ⟨by
  intro pins s σ H D I h
  have q := c.ei
  unfold PySem.W.excIn at q
  split at q
  · rename_i dd cdt sl ho
    split at q
    · rename_i C' bm k0 k1 k2 k3 n k5 hm hs
      simp only [Bool.and_eq_true, beq_iff_eq, Bool.not_eq_true'] at q
      obtain ⟨⟨⟨⟨⟨rfl, rfl⟩, hdel⟩, ht⟩, hok⟩, hni⟩ := q
      obtain ⟨nm, bs, mro, ns, qn, hd, sn, sub, ab, col, del⟩ := cdt
      dsimp only at hm hdel hok hni
      subst hm hdel
      have hsl : sl = #[k0, k1, k2, k3, some (.builtin "ValueError.__new__"), k5] := by
        obtain ⟨l⟩ := sl
        simp only at hs
        rw [hs]
      subst hsl
      have hOT := PySem.W.tail_of_in I.kIn ht
      refine wpAny_Raise_call_subT (C := C') (nm := nm) (q := qn) (N := ns) (bs := bs) (bm := bm) (hdct := hd) (sn := sn) (sub := sub) (ab := ab) (col := col) (dd := dd) (k0 := k0) (k1 := k1) (k2 := k2) (k3 := k3) (k5 := k5) (bmB := veMro) PySem.F.excBase_ValueError (hOT.hasType PySem.F.excBase_ValueError.hasBase) (I.ok.hd hc) ?_ (PySem.W.nsMap_none_of_in I.mod.kin hok hni) (ld_glob I hg c.mgx ⟨rfl, ?_⟩ hdb)
      · rw [star_cons h1]
        show (false || (backTo cpos (starEach es X.env)).any (·.1)) = false
        rw [star_any h2]
        rfl
      · have hA := ha.h cpos pins s σ H _ I h
        rw [star_cons h1] at hA ⊢
        refine Calls.evalArgs_plain (thn hA fun us s1 ⟨vs, H1, I1, rv, hz, hE⟩ => ?_)
        refine ⟨rfl, by rw [← rv.length]; exact hz, I1.kIn _ _ ho, (Heap.Ns.of_isNs (PySem.W.isNs_of_in I.mod.kin hok)).keeps I1.bk, PySem.W.tail_of_in I1.kIn ht, fun h' ea hx => ?_⟩
        obtain ⟨t0, he, _, _⟩ := hx.there
        exact hT pins σ H1 H1 { s1 with heap := h' } s1 ea _ (.ref t0) _ [.none, .bool false, .none] none (I1.kept (t' := s1.toks) hx.keeps) I1 hx.new he rfl rfl rfl (I1.hok.none_of hx.new) hE
    · cases q
  · cases q⟩
end
end L2

set_option Elab.async false
set_option linter.all false
set_option maxRecDepth 100000
set_option maxHeartbeats 4000000
namespace L2
open PySem PySem.Spec PyProof.Rows
section
variable {P : Program} {w : World} {K : PySem.W.Frag} {mg : Str → Option Value} {base : Heap}
/-- a def that may raise -/
theorem Fun.okE {x qual : Str} {st : Stmt} {f : Addr} {fd : FuncData} {N ps : List Str} {k : Nat} {sp : Sp} (F : Fun K x qual st f fd) (S : FnScope N ps (defScope st)) (len : ∀ vs H Q E, sp vs H Q E → vs.length = ps.length)
    (hbody : ∀ (cdv : Value) (A : Around) (outer : List Env) (s : Shared) (H : Hp) (vs : List V) (Q : VK) (E : XK), Room k (A.deeper (envOfC qual (defScope st) s.heap.objs.size f cdv)) → sp vs H Q E →
      ∃ t, BSs (cxOf (CXE P w) P w K mg base N qual (defScope st) f cdv A outer s H E) (defBody st) t ∧ t { nx := fun _ H' => Q .non H', rt := Q } (start N vs) H) : FnOk P w K mg base (CXE P w) (k + 1) f fd ps sp := by
  obtain ⟨oc, od, kV, doc, pm, an, cdv, ct, osl, rfl, lk, hcd⟩ := F.ex
  refine fn_of lk hcd S len fun A outer s H vs Q E hr hsp => ?_
  obtain ⟨t, h, q⟩ := hbody cdv A outer s H vs Q E hr hsp
  exact ⟨t, h.h, q⟩
end
section
variable {X : Cx} {x : Str} {sf : Stmt} {ps : List Str} {f : Addr} {fd : FuncData} {k : Nat} {sp : Sp} {e : Expr} {es : List Expr} {t : TA} {p pos : Pos} {E : XK}
end
end L2

set_option Elab.async false
set_option linter.all false
set_option maxRecDepth 100000
set_option maxHeartbeats 4000000
namespace L2
open PySem PySem.Spec PyProof.Rows
/-- the frame's own state behind a flight -/
theorem Inv.flown {X : Cx} {pins : List (Addr × Obj)} {σ : St} {H : Hp} {s : Shared} {h' : Heap} {ea T : Addr} {t' : Nat} (I : Inv X pins σ H s) (Fl : Flown (frs X.stack) ea T s.heap h') (nea : X.s₀.heap.get? ea = none) (nT : X.s₀.heap.get? T = none) (n1 : H ea = none) (n2 : H T = none)
    (p1 : ∀ p ∈ X.pn ++ pins, p.1 ≠ ea ∧ p.1 ≠ T) (l1 : ea ≠ X.env.locals ∧ T ≠ X.env.locals) (c1 : ∀ x c, X.env.cells.lookup x = some c → c ≠ ea ∧ c ≠ T) : Inv X pins σ H { s with heap := h', toks := t' } := by
  have sub : ∀ b, b ∉ X.fs → b ≠ X.env.locals → b ∉ frs X.stack := fun b h1 h2 z => (List.mem_cons.mp (I.stkSub b z)).elim h2 h1
  have any : ∀ b o, s.heap.get? b = some o → b ≠ ea → b ≠ T → ∃ sl, h'.get? b = some { o with slots := sl } := fun b o e m1 m2 => by
    by_cases hm : b ∈ frs X.stack
    · exact Fl.slot b o e hm
    · exact ⟨o.slots, Fl.keep b o e m1 m2 hm⟩
  have ne : ∀ b o c, X.s₀.heap.get? b = some o → X.s₀.heap.get? c = none → b ≠ c := fun b o c e n z => by rw [z, n] at e; cases e
  have neL : ∀ b o, X.s₀.heap.get? b = some o → b ≠ X.env.locals := fun b o e => Nat.ne_of_lt (Nat.lt_of_lt_of_le (Heap.lt_size e) I.ok.above)
  have cellK : ∀ x c, X.env.cells.lookup x = some c → ∀ v, s.heap.IsCell c v → h'.IsCell c v := fun x c e v ⟨o, ho, hd⟩ => by
    obtain ⟨sl, q⟩ := any c o ho (c1 x c e).1 (c1 x c e).2
    exact ⟨_, q, hd⟩
  refine ⟨I.ok, I.os, I.bare, ⟨fun b o e n hb hx => ?_, fun b o e n hb hx => ?_, I.base.free, fun b o e hx => ?_, I.base.tups, I.base.frzs, I.base.tbls⟩, ?_, fun x c e => ?_, I.free, I.freeC, fun p hp => ?_, I.hok.flown Fl n1 n2 I.stkFree, I.len⟩
  · exact Fl.keep b o (I.base.keep b o e n hb hx) (ne b o ea e nea) (ne b o T e nT) (sub b hb (neL b o e))
  · obtain ⟨sl, e1⟩ := I.base.slot b o e n hb hx
    obtain ⟨sl', e2⟩ := any b _ e1 (ne b o ea e nea) (ne b o T e nT)
    exact ⟨sl', e2⟩
  · obtain ⟨o1, e1⟩ := I.base.there b o e hx
    obtain ⟨sl, e2⟩ := any b o1 e1 (ne b o ea e nea) (ne b o T e nT)
    exact ⟨_, e2⟩
  · obtain ⟨m, ⟨o, es, ep, ho, r⟩, hl⟩ := I.loc
    obtain ⟨sl, e2⟩ := any _ o ho (Ne.symm l1.1) (Ne.symm l1.2)
    refine ⟨m, ⟨_, es, ep, e2, r⟩, fun i x v e1 e2 e3 => ?_⟩
    obtain ⟨u, r, l⟩ := hl i x v e1 e2 e3
    refine ⟨u, r, ?_⟩
    rcases l with l | ⟨k, c, e, z⟩
    · exact .inl l
    · exact .inr ⟨k, c, e, cellK x c e _ z⟩
  · obtain ⟨v, z⟩ := I.cell x c e
    exact ⟨v, cellK x c e v z⟩
  · obtain ⟨e, n, m1, m2, d⟩ := I.pin p hp
    exact ⟨Fl.keep p.1 p.2 e (p1 p hp).1 (p1 p hp).2 (sub p.1 m2 m1), n, m1, m2, d⟩
/-- the same context within an except suite: e is being handled -/
def Cx.held (X : Cx) (e : Value) (E : Value → Shared → Prop) : Cx := { X with A := X.A.mark (some e), calm := false, xe := E }
theorem Inv.held {X : Cx} {pins : List (Addr × Obj)} {σ : St} {H : Hp} {s : Shared} (I : Inv X pins σ H s) (e : Value) (E : Value → Shared → Prop) : Inv (X.held e E) pins σ H s :=
  ⟨⟨I.ok.mod, I.ok.kind, I.ok.glob, I.ok.blt, I.ok.above, I.ok.inj, I.ok.has, I.ok.cab, fun h => absurd (show false = true from h) (by decide), I.ok.frames, I.ok.stk, I.ok.exf, I.ok.bs, I.ok.bsz, I.ok.noex, I.ok.exfs, I.ok.funs, I.ok.frf⟩, I.os, I.bare, I.base, I.loc, I.cell, I.free, I.freeC, I.pin, I.hok, I.len⟩
end L2

set_option Elab.async false
set_option linter.all false
set_option maxRecDepth 100000
set_option maxHeartbeats 4000000
namespace L2
open PySem PySem.Spec PyProof.Rows
/-- an object of the class C; of its dict nothing is said -/
def OfCls (h : Heap) (x C : Addr) : Prop := ∃ o, h.get? x = some o ∧ o.cls = .ref C
theorem OfCls.type {M : Model} {h : Heap} {x C : Addr} (I : OfCls h x C) : PySem.W.Looks M h (typeOf (.ref x)) (.ref C) := by
  obtain ⟨o, e, c⟩ := I
  exact c ▸ (PySem.W.Looks.ld e).andThen .now
/-- does an exception of the class C match the class C'? -/
theorem matches_own {P : Program} {w : World} {A : Around} {E : Value → Shared → Prop} {K : PySem.W.Frag} {s : Shared} {e C C' : Addr} {b : Bool} {Q : Bool → Shared → Prop} (X : K.In s.heap) (T : OfCls s.heap e C)
    (hb : PySem.W.kitCls K (.ref C') (.type "BaseException") = some true) (hc : PySem.W.kitCls K (.ref C) (.ref C') = some b) (hq : Q b s) : wpAny (model P w) A (excMatches (.ref e) (.ref C')) Q E s := by
  obtain ⟨hh, g, d, t, os⟩ := s
  obtain ⟨c1, c2, c3⟩ := PySem.W.kit_cls (M := model P w) X hc
  obtain ⟨_, _, c4⟩ := PySem.W.kit_cls (M := model P w) X hb
  have ty := T.type (M := model P w)
  have nt : PySem.W.Looks (model P w) hh (isSubtype (.type "type") (.type "tuple")) false := PySem.W.Looks.of_pure tc_notTuple
  have li : PySem.W.Looks (model P w) hh (isInstance (.ref C') (.type "tuple")) false := c1.andThen nt
  have ec : PySem.W.Looks (model P w) hh (isExcClass (.ref C')) true := c2.andThen c4
  unfold excMatches
  refine wpAny_bind (li.at ?_)
  simp only [Bool.false_eq_true, if_false]
  repeat (first | lk | wp_step)
  cases b <;> (wp_walk; exact hq)
end L2

set_option Elab.async false
set_option linter.all false
set_option maxRecDepth 100000
set_option maxHeartbeats 4000000
namespace L2
open PySem PySem.Spec PyProof.Rows
section
variable {X : Cx} {pins : List (Addr × Obj)} {σ : St} {H : Hp} {s : Shared}
/-- a local name that has a value is unbound -/
theorem unbind_ok {M : Model} {A : Around} {E : Value → Shared → Prop} {i : Nat} {x : Str} {v : V} {Q : Unit → Shared → Prop} (I : Inv X pins σ H s) (hN : X.N.Nodup) (hi : X.N[i]? = some x) (hk : X.env.scope.names.lookup x = some .local) (hv : σ[i]? = some (some v))
    (h : ∀ s', Inv X pins (σ.set i none) H s' → Q () s') : wpAny M A (unbindName X.env x) Q E s := by
  obtain ⟨m, hn, hl⟩ := id I.loc
  have hcls : (X.env.scope.kind == .class || (X.env.scope.kind == .module && X.env.locals != X.env.globals)) = false := by rw [I.ok.kind]; rfl
  have hiσ : i < σ.length := by rw [I.len]; exact (List.getElem?_eq_some_iff.mp hi).1
  have cne := I.cne
  obtain ⟨u0, _, lk⟩ := hl i x v hi hv (.inl hk)
  have hm : m x = some u0 := by
    rcases lk with ⟨_, e⟩ | ⟨k, _⟩
    · exact e
    · have hk' : X.env.kindOf x = some .local := hk
      rw [hk'] at k
      rcases k with k | k <;> cases k
  obtain ⟨oL, _, _, hoL, _⟩ := id hn
  refine wpAny_unbindName_local hk hn hm hcls fun h' u hn' hs => ?_
  have tr : HOk X.prog X.w H h' := fun b ob e => by
    have hfree := I.free
    refine (I.hok b ob e).stay (fun c w' hc q => (hs.2 c ?_).trans q) (fun _ q => q) fun _ _ q => q
    rintro rfl
    rcases hc with rfl | hc
    · rw [hfree] at e; cases e
    · rw [hfree] at hc; cases hc
  refine h _ ⟨I.ok, I.os, I.bare, ⟨fun b o e n hb hx => ?_, fun b o e n hb hx => ?_, I.base.free, fun b o e hx => ?_, I.base.tups, I.base.frzs, I.base.tbls⟩, ⟨_, hn', fun j y v' e1 e2 e3 => ?_⟩, fun y c e => ?_, I.free, I.freeC, fun p hp => ?_, tr, by simpa using I.len⟩
  · exact (hs.2 b (Nat.ne_of_lt (Nat.lt_of_lt_of_le (Heap.lt_size e) I.ok.above))).trans (I.base.keep b o e n hb hx)
  · obtain ⟨sl, e1⟩ := I.base.slot b o e n hb hx
    exact ⟨sl, (hs.2 b (Nat.ne_of_lt (Nat.lt_of_lt_of_le (Heap.lt_size e) I.ok.above))).trans e1⟩
  · obtain ⟨o', e1⟩ := I.base.there b o e hx
    exact ⟨o', (hs.2 b (Nat.ne_of_lt (Nat.lt_of_lt_of_le (Heap.lt_size e) I.ok.above))).trans e1⟩
  · by_cases hj : j = i
    · subst hj
      rw [List.getElem?_set_self hiσ] at e2
      cases e2
    · rw [List.getElem?_set_ne (Ne.symm hj)] at e2
      obtain ⟨u', r', q⟩ := hl j y v' e1 e2 e3
      refine ⟨u', r', ?_⟩
      rcases q with ⟨k, e⟩ | ⟨k, c, e, z⟩
      · refine .inl ⟨k, ?_⟩
        have : y ≠ x := fun e => hj (nodup_ix hN e1 (e ▸ hi))
        simp [this, e]
      · exact .inr ⟨k, c, e, z.sameBut hs (cne y c e)⟩
  · obtain ⟨w', z⟩ := I.cell y c e
    exact ⟨w', z.sameBut hs (cne y c e)⟩
  · obtain ⟨e, n, ne, nf, d⟩ := I.pin p hp
    exact ⟨(hs.2 p.1 ne).trans e, n, ne, nf, d⟩
/-- the name of an except clause goes behind its suite -/
theorem name_goes {M : Model} {A : Around} {E : Value → Shared → Prop} {i : Nat} {x : Str} {pos : Pos} {Q : Unit → Shared → Prop} (I : Inv X pins σ H s) (hN : X.N.Nodup) (hi : X.N[i]? = some x) (hk : X.env.scope.names.lookup x = some .local)
    (h : ∀ s', Inv X pins (σ.set i none) H s' → Q () s') : wpAny M A (do bindName X.env x .none; unbindBehindTheSuite X.env x pos) Q E s := by
  have hiσ : i < σ.length := by rw [I.len]; exact (List.getElem?_eq_some_iff.mp hi).1
  refine wpAny_bind (wpAny_bindName (store_ok (v := .non) I hN hi (.inl hk) rfl (fun s1 I1 => ?_) (.inr hk)))
  unfold unbindBehindTheSuite
  refine wpAny_onRaise (unbind_ok I1 hN hi hk (List.getElem?_set_self hiσ) fun s2 I2 => h s2 ?_)
  rw [List.set_set] at I2
  exact I2
end
end L2

set_option Elab.async false
set_option linter.all false
set_option maxRecDepth 100000
set_option maxHeartbeats 4000000
namespace L2
open PySem PySem.Spec PyProof.Rows
/-! ### a call whose exceptions are wanted at the state where they come -/
def PassesS (CX : CXT) (X : Cx) (EX : St → XK) : Prop := ∀ (pins : List (Addr × Obj)) (σ : St) (H : Hp) (s : Shared) (e : Value) (s' : Shared), Inv X pins σ H s → CX X.stack H s (EX σ) e s' → X.xe e s'
def tCallS (sp : Sp) (dvs : List V) (EX : St → XK) (t : TA) : TE := fun σ H Q => t σ H fun vs H1 => sp (vs ++ dvs) H1 Q (EX σ)
section
variable {X : Cx} {CX : CXT} {k : Nat} {f C : Addr} {fd : FuncData} {ps : List Str} {sp : Sp} {dvs : List V} {ds : List Value} {EX : St → XK} {x m : Str} {p pos apos : Pos} {e o : Expr} {es : List Expr} {ta : TE} {t : TA} {sf : Stmt}
theorem run_fnS {pins : List (Addr × Obj)} {σ : St} {H : Hp} {s : Shared} {Q : VK} {us : List Value} {vs : List V} (F : FnOk X.prog X.w X.K X.mg X.base CX k f fd ps sp) (hr : Room k X.A) (hb : Binds X.K fd ps ds) (hd : Vals dvs ds) (hx : PassesS CX X EX)
    (I : Inv X pins σ H s) (r : Vals vs us) (h : sp (vs ++ dvs) H Q (EX σ)) : wpAny (model X.prog X.w) X.A (call (.ref f) us) (EP X pins σ Q) X.xe s := by
  have r2 : Vals (vs ++ dvs) (us ++ ds) := r.append hd
  have hl : (us ++ ds).length = ps.length := by rw [← r2.length]; exact F.len _ _ _ _ h
  refine wpAny_call (codeAny_mono (F.run X.A X.stack s H ⟨us, []⟩ (us ++ ds) (vs ++ dvs) Q (EX σ) hr I.env0 (hb s us I.kIn hl) r2 h) fun r s' hq => ?_)
  cases r with
  | error e => exact hx pins σ H s e s' I hq
  | ok fl =>
    cases fl with
    | ret u => exact I.after hq
    | next => exact False.elim hq
    | brk => exact False.elim hq
    | cont => exact False.elim hq
theorem pe_callS (F : FnOk X.prog X.w X.K X.mg X.base CX k f fd ps sp) (hr : Room k X.A) (hg : Gl X x) (hm : X.mg x = some (.ref f)) (hk : PySem.W.keepIn X.K (.ref f) = true) (hb : Binds X.K fd ps ds) (hd : Vals dvs ds) (hx : PassesS CX X EX)
    (ha : PA X (e :: es) t) (hdb : (x == ("__debug__" : Str)) = false := by decide) (he : starEach (e :: es) X.env = (false, eval e X.env) :: starEach es X.env := by rfl) (hpl : (backTo pos (starEach es X.env)).any (·.1) = false := by rfl) :
    PE X (.Call (.Name x p) (e :: es) [] pos) (tCallS sp dvs EX t) := by
  intro pins s σ H Q I h
  refine wpAny_Call_Name_kw (ld_glob I hg hm ?_ hdb)
  refine PySem.W.callWith_K (h₀ := X.base) I.ok.mod.kin hk (thn (ha pos pins s σ H _ I h) fun us s1 ⟨vs, H1, I1, r, q⟩ => ⟨I1.kIn, ?_⟩) he hpl
  exact run_fnS F hr hb hd hx I1 r q
theorem b_fS (hx : PassesS (CXE X.prog X.w) X EX) (N : Fn X.K X.mg x sf ps f fd) (G : FnOk X.prog X.w X.K X.mg X.base (CXE X.prog X.w) k f fd ps sp) (hr : Room k X.A) (ha : BA X (e :: es) t) (hg : Gl X x := by rfl) (hdb : (x == ("__debug__" : Str)) = false := by decide) (h1 : isStar e = false := by rfl) (h2 : noStar es = true := by rfl) :
    BE X (.Call (.Name x p) (e :: es) [] pos) (tCallS sp [] EX t) := ⟨pe_callS G hr hg N.mgx N.fu.kp N.bd .nil hx ha.h hdb (star_cons h1) (star_any h2)⟩
end
/-! ### the body of a try -/
/-- what is wanted of an exception that comes to a try of the context X -/
def ET (X : Cx) (pins : List (Addr × Obj)) (EX : St → XK) : Value → Shared → Prop := fun e s1 => ∃ (ea T : Addr) (cls : Value) (dc : Option Addr) (σ : St) (H : Hp), e = .ref ea ∧ Inv X pins σ H s1 ∧ FlyT s1.heap ea T cls dc ∧
  X.s₀.heap.get? ea = none ∧ X.s₀.heap.get? T = none ∧ H ea = none ∧ H T = none ∧ (∀ p ∈ X.pn ++ pins, p.1 ≠ ea ∧ p.1 ≠ T) ∧ (ea ≠ X.env.locals ∧ T ≠ X.env.locals) ∧ (∀ x c, X.env.cells.lookup x = some c → c ≠ ea ∧ c ≠ T) ∧ EX σ cls dc H
def Cx.tried (X : Cx) (pins : List (Addr × Obj)) (EX : St → XK) : Cx := { X with pn := X.pn ++ pins, xe := ET X pins EX }
section
variable {X : Cx} {pins pins' : List (Addr × Obj)} {EX : St → XK} {σ : St} {H : Hp} {s : Shared}
theorem Inv.tried (I : Inv X pins σ H s) : Inv (X.tried pins EX) [] σ H s :=
  ⟨⟨I.ok.mod, I.ok.kind, I.ok.glob, I.ok.blt, I.ok.above, I.ok.inj, I.ok.has, I.ok.cab, I.ok.hd, I.ok.frames, I.ok.stk, I.ok.exf, I.ok.bs, I.ok.bsz, I.ok.noex, I.ok.exfs, I.ok.funs, I.ok.frf⟩, I.os, I.bare, I.base, I.loc, I.cell, I.free, I.freeC, fun p hp => I.pin p (by simpa [Cx.tried] using hp), I.hok, I.len⟩
theorem Inv.untried (I : Inv (X.tried pins EX) pins' σ H s) : Inv X pins σ H s :=
  ⟨⟨I.ok.mod, I.ok.kind, I.ok.glob, I.ok.blt, I.ok.above, I.ok.inj, I.ok.has, I.ok.cab, I.ok.hd, I.ok.frames, I.ok.stk, I.ok.exf, I.ok.bs, I.ok.bsz, I.ok.noex, I.ok.exfs, I.ok.funs, I.ok.frf⟩, I.os, I.bare, I.base, I.loc, I.cell, I.free, I.freeC, fun p hp => I.pin p (List.mem_append_left _ hp), I.hok, I.len⟩
theorem SP.untried {D : Ends} {f : Flow} {s' : Shared} (h : SP (X.tried pins EX) pins' D f s') : SP X pins D f s' := by
  cases f with
  | next => obtain ⟨σ', H', I, q⟩ := h; exact ⟨σ', H', I.untried, q⟩
  | brk => obtain ⟨σ', H', I, q⟩ := h; exact ⟨σ', H', I.untried, q⟩
  | cont => obtain ⟨σ', H', I, q⟩ := h; exact ⟨σ', H', I.untried, q⟩
  | ret u => obtain ⟨v, σ', H', I, r, q⟩ := h; exact ⟨v, σ', H', I.untried, r, q⟩
theorem tried_passes (hx : X.ex = []) : PassesS (CXE X.prog X.w) (X.tried pins EX) EX := by
  intro pins' σ H s e s' I h
  obtain ⟨ea, T, cls, dc, H', rfl, os, bare, un, hok, F, hea, hT, nea, nT, hE⟩ := h
  have I0 : Inv X pins σ H s := I.untried
  have I1 : Inv X pins σ H' s' := I0.call' os un hok bare (fun b z => absurd z (by simp))
  have ne : ∀ b o c, s.heap.get? b = some o → s.heap.get? c = none → b ≠ c := fun b o c e n z => by rw [z, n] at e; cases e
  obtain ⟨m, ⟨o, es, ep, ho, _⟩, _⟩ := id I0.loc
  refine ⟨ea, T, cls, dc, σ, H', rfl, I1, F, I0.new0 hx hea, I0.new0 hx hT, nea, nT, fun p hp => ?_, ⟨Ne.symm (ne _ _ _ ho hea), Ne.symm (ne _ _ _ ho hT)⟩, fun x c e => ?_, hE⟩
  · have := (I0.pin p hp).1
    exact ⟨ne _ _ _ this hea, ne _ _ _ this hT⟩
  · obtain ⟨v, oc, hoc, _⟩ := I0.cell x c e
    exact ⟨ne _ _ _ hoc hea, ne _ _ _ hoc hT⟩
end
end L2

set_option Elab.async false
set_option linter.all false
set_option maxRecDepth 100000
set_option maxHeartbeats 4000000
namespace L2
open PySem PySem.Spec PyProof.Rows
/-- once more -/
theorem fly_land {M : Model} {A : Around} {E : Value → Shared → Prop} {s : Shared} {Q : Unit → Shared → Prop} {l : List Env} {base : Heap} {ea T : Addr} {cls : Value} {dc : Option Addr} (hl : s.heap.FunFrames base l)
    (F : FlyT s.heap ea T cls dc) (hQ : ∀ h' T', FlyT h' ea T' cls dc → (T' = T ∨ s.heap.get? T' = none) → Flown (frs l) ea T s.heap h' → Q () { s with heap := h' }) : wpAny M A (setFlight (.ref ea) none) Q E s := by
  obtain ⟨oe, vs, oT, ts, he, hc, hdc, hv, h1, hTe, hT, hdT, h3, h2v⟩ := F
  have z3 : 3 < ts.size := (Array.getElem?_eq_some_iff.mp h3).1
  have hTf : T ∉ frs l := frame_no hl hT hdT
  refine fly_over he hv h1 hT hdT z3 fun h2 o2 t2 => ?_
  refine hQ h2 T ⟨oe, vs, _, _, (o2 _ (Ne.symm hTe)).trans he, hc, hdc, hv, h1, hTe, t2, Obj.data_mapFields hdT _, by simp [z3], h2v⟩ (.inl rfl) ⟨fun c o q a1 a2 a3 => (o2 c a2).trans q, fun c o q hm => ⟨o.slots, (o2 c (fun z => hTf (by rw [← z]; exact hm))).trans q⟩⟩
/-- b is nothing of the frame's own -/
structure Apart (X : Cx) (pins : List (Addr × Obj)) (H : Hp) (b : Addr) : Prop where
  old : X.s₀.heap.get? b = none
  free : H b = none
  pin : ∀ p ∈ X.pn ++ pins, p.1 ≠ b
  loc : b ≠ X.env.locals
  cell : ∀ x c, X.env.cells.lookup x = some c → c ≠ b
section
variable {X : Cx} {pins : List (Addr × Obj)} {σ : St} {H : Hp} {s : Shared} {h' : Heap} {ea T T' : Addr} {t' : Nat}
theorem Inv.flownA (I : Inv X pins σ H s) (Fl : Flown (frs X.stack) ea T s.heap h') (a : Apart X pins H ea) (b : Apart X pins H T) : Inv X pins σ H { s with heap := h', toks := t' } :=
  I.flown Fl a.old b.old a.free b.free (fun p hp => ⟨a.pin p hp, b.pin p hp⟩) ⟨a.loc, b.loc⟩ fun x c e => ⟨a.cell x c e, b.cell x c e⟩
theorem Inv.apart (I : Inv X pins σ H s) (hx : X.ex = []) (hea : s.heap.get? ea = none) : Apart X pins H ea := by
  have ne : ∀ b o c, s.heap.get? b = some o → s.heap.get? c = none → b ≠ c := fun b o c e n z => by rw [z, n] at e; cases e
  obtain ⟨m, ⟨o, es, ep, ho, _⟩, _⟩ := id I.loc
  refine ⟨I.new0 hx hea, I.hok.none_of hea, fun p hp => ne _ _ _ (I.pin p hp).1 hea, Ne.symm (ne _ _ _ ho hea), fun x c e => ?_⟩
  obtain ⟨v, oc, hoc, _⟩ := I.cell x c e
  exact ne _ _ _ hoc hea
theorem Apart.next (I : Inv X pins σ H s) (hx : X.ex = []) (a : Apart X pins H T) (h : T' = T ∨ s.heap.get? T' = none) : Apart X pins H T' := by
  rcases h with rfl | h
  · exact a
  · exact I.apart hx h
end
/-- the ends of an except suite: its name is gone behind it -/
def Ends.gone (D : Ends) (i : Nat) : Ends := { nx := fun σ H => D.nx (σ.set i none) H, rt := D.rt, bk := fun σ H => D.bk (σ.set i none) H, ct := fun σ H => D.ct (σ.set i none) H }
/-- the context of an except suite; the exception itself is pinned -/
def Cx.heldX (X : Cx) (ea : Addr) (oe : Obj) : Cx := { X with A := X.A.mark (some (.ref ea)), calm := false, xe := fun _ _ => False, pn := (ea, oe) :: X.pn }
section
variable {X : Cx} {pins : List (Addr × Obj)} {σ : St} {H : Hp} {s : Shared} {ea : Addr} {oe : Obj}
theorem Inv.heldX (I : Inv X pins σ H s) (a : Apart X pins H ea) (he : s.heap.get? ea = some oe) (hd : ∀ v, oe.data ≠ .cell v) : Inv (X.heldX ea oe) pins σ H s := by
  have J := I.held (.ref ea) fun _ _ => False
  refine ⟨⟨J.ok.mod, J.ok.kind, J.ok.glob, J.ok.blt, J.ok.above, J.ok.inj, J.ok.has, J.ok.cab, fun h => absurd (show false = true from h) (by decide), J.ok.frames, J.ok.stk, J.ok.exf, J.ok.bs, J.ok.bsz, J.ok.noex, J.ok.exfs, J.ok.funs, J.ok.frf⟩, I.os, I.bare, I.base, I.loc, I.cell, I.free, I.freeC, fun p hp => ?_, I.hok, I.len⟩
  rcases List.mem_cons.mp (show p ∈ (ea, oe) :: (X.pn ++ pins) from hp) with rfl | hp
  · refine ⟨he, a.free, a.loc, fun z => ?_, hd⟩
    obtain ⟨_, o, ho, _⟩ := I.ok.funs.mem z
    have := a.old
    rw [ho] at this
    cases this
  · exact I.pin p hp
theorem Inv.unheldX (ok : X.Ok) (I : Inv (X.heldX ea oe) pins σ H s) : Inv X pins σ H s :=
  ⟨ok, I.os, I.bare, I.base, I.loc, I.cell, I.free, I.freeC, fun p hp => I.pin p (List.mem_cons_of_mem _ hp), I.hok, I.len⟩
end
end L2

set_option Elab.async false
set_option linter.all false
set_option maxRecDepth 100000
set_option maxHeartbeats 4000000
namespace L2
open PySem PySem.Spec PyProof.Rows
/-! ### isinstance of an exception that is held -/
/-- a class, as a value -/
def isCl : V → Bool
  | .ref _ => true
  | .ty _ => true
  | _ => false
def vcl : V → Value
  | .ref a => .ref a
  | .ty n => .type n
  | _ => .none
theorem vcl_rel {v : V} {u : Value} (r : RelV v u) (h : isCl v = true) : u = vcl v := by
  cases v <;> first | exact r | cases h
theorem vcl_vals {xs : List V} {us : List Value} (r : Vals xs us) (h : xs.all isCl = true) : us = xs.map vcl := by
  induction r with
  | nil => rfl
  | cons a _ ih =>
    rw [List.all_cons, Bool.and_eq_true] at h
    rw [List.map_cons, ← vcl_rel a h.1, ← ih h.2]
/-- what is asked of the exception ea of the class C: one class, or a tuple of classes -/
def rIsX (K : PySem.W.Frag) (C ea : Addr) : List V → Hp → VK → Prop := fun xs H Q => ∃ c b, xs = [.ref ea, c] ∧
  ((isCl c = true ∧ PySem.W.kitOne K (.ref C) (vcl c) = some b) ∨ ∃ tp cs, c = .ref tp ∧ H tp = some (.tup cs) ∧ cs.all isCl = true ∧ PySem.W.kitAny K (.ref C) (cs.map vcl) = some b) ∧ Q (.bl b) H
section
variable {X : Cx} {ea C : Addr} {oe : Obj}
theorem call_isX (Z : PySem.W.KitX X.K (.ref ea) (.ref C) fun h => OfCls h ea C) (hp : (ea, oe) ∈ X.pn) (hc : oe.cls = .ref C) : CallR X (.builtin "isinstance") (rIsX X.K C ea) := by
  intro pins s σ H xs us Q I r h
  obtain ⟨c, b, rfl, hk, q⟩ := h
  obtain ⟨u, w', rfl, ru, rw'⟩ := vals2 r
  cases (show u = Value.ref ea from ru)
  have at_ : OfCls s.heap ea C := ⟨oe, (I.pin _ (List.mem_append_left _ hp)).1, hc⟩
  rcases hk with ⟨h1, h2⟩ | ⟨tp, cs, rfl, ht, h1, h2⟩
  · rw [← vcl_rel rw' h1] at h2
    exact PySem.W.kia_one Z I.kIn at_ h2 (fun z => nomatch z) fun tk => ⟨.bl b, H, I.tok tk, rfl, q⟩
  · cases (show w' = Value.ref tp from rw')
    obtain ⟨_, vs, rv, p⟩ := (show ObjOk X.prog X.w H s.heap tp (.tup cs) from I.hok tp _ ht)
    obtain ⟨o, g1, g2, n, g3⟩ := p
    rw [← vcl_vals rv h1] at h2
    obtain ⟨oc, od, oda, osl⟩ := o
    dsimp only at g2 g3
    subst g2 g3
    exact PySem.W.kia_tup Z I.kIn at_ g1 h2 (fun z => nomatch z) fun tk => ⟨.bl b, H, I.tok tk, rfl, q⟩
end
end L2

set_option Elab.async false
set_option linter.all false
set_option maxRecDepth 100000
set_option maxHeartbeats 4000000
namespace L2
open PySem PySem.Spec PySem.Calls PySem.W PyProof.Rows Builtin Builtin.ObjectAttr Builtin.Getset_descriptor
section
variable {P : Program} {w : World} {A : Around} {E : Value → Shared → Prop} {s : Shared} {K : PySem.W.Frag} {x C : Addr}
/-- a data descriptor of the class is found whatever the object's own dict says -/
theorem OfCls.finds {M : Model} {h : Heap} {name : Str} {a g : Value} (X : K.In h) (ha : findIn K (.ref C) name = some (some a)) (hg : specialIn K a "__get__" = some (some g)) (ht : takesIn K a = some true) :
    Looks M h (find (.ref x) (.ref C) name) (.bind g a) := by
  have f := looks_takesIn (M := M) X ht
  have d : Looks M h (dataDescriptor? (some a) (some g)) (some (g, a)) := f.andThen .now
  exact (looks_findIn X ha).andThen ((show Looks M h (getOf (some a)) (some g) from looks_specialIn X hg).andThen (d.andThen (.tag .now)))
/-- e.__class__ of it -/
theorem OfCls.class_of {Q : Option Value → Shared → Prop} (I : OfCls s.heap x C) (X : K.In s.heap) (hg : plainGet K C "__class__" = true) (ha : findIn K (.ref C) "__class__" = some (some (.builtin "object.__class__")))
    (hn : specialIn K (.builtin "object.__class__") "__get__" = some (some (.builtin "getset_descriptor.__get__"))) (ht : takesIn K (.builtin "object.__class__") = some true) (hm : mroIn K C (.type "object") = some true)
    (h : Q (some (.ref C)) { s with toks := s.toks + 1 }) : wpAny (model P w) A (getAttr? (.ref x) "__class__") Q E s := by
  obtain ⟨hh, g, d, t, os⟩ := s
  have L0 := I.type (M := model P w)
  have L1 := looks_findIn (M := model P w) X (plainGet_of hg).1
  have L2 := looks_findIn (M := model P w) X (plainGet_of hg).2
  have L3 := OfCls.finds (M := model P w) (x := x) X ha hn ht
  have L4 := looks_mroIn (M := model P w) X hm
  unfold getAttr? getAttrBy? getAttrBy
  refine wpAny_bind (wpAny_mkText (wpAny_bind (wpAny_attempt (wpAny_holding (wpAny_bind (L0.at (wpAny_bind (L1.at ?_))))))))
  refine wpAny_bind (wpAny_onRaise (wpAny_runValue (codeAny_builtin PySem.F.plainObj_entry_getattr_hooked ?_)))
  refine wpAny_bind (wpAny_pure (wpAny_bind (L0.at (wpAny_bind (L3.at (wpAny_bind (L2.at (wpAny_bind (wpAny_holding (wpAny_call ?_)))))))))) 
  refine codeAny_call_builtin KF.slot_gs.plain KF.entry_gs (KF.slot_gs.check _ _ _ _ _ _ _ _ KF.type_class (KF.args_gs _ _ _) ?_)
  simp only [Builtin.«getset_descriptor.__get__», descrGet, dga_obj, descrGetter, descrCheckInstance, descrNameAndClass, isInstance, KF.owner_class]
  refine wpAny_bind (wpAny_pure ?_)
  simp only [KF.owner_class]
  repeat lk
  refine ⟨Code.quiet_builtin _ (by decide +kernel), codeAny_builtin KF.entry_class ?_⟩
  simp only [Builtin.«object.__class__», shownTypeOf]
  repeat lk
  exact h
/-- what isinstance asks of such an object -/
structure ClsX (K : PySem.W.Frag) (C : Addr) : Prop where
  hg : plainGet K C "__class__" = true
  ha : findIn K (.ref C) "__class__" = some (some (.builtin "object.__class__"))
  hn : specialIn K (.builtin "object.__class__") "__get__" = some (some (.builtin "getset_descriptor.__get__"))
  ht : takesIn K (.builtin "object.__class__") = some true
  hm : mroIn K C (.type "object") = some true
  hk : kitCls K (.ref C) (.ref C) = some true
theorem ClsX.kit (c : ClsX K C) : KitX K (.ref x) (.ref C) fun h => OfCls h x C where
  ty := fun _ _ _ I => I.type
  it := fun _ _ X _ => (kit_cls X c.hk).2.1
  ne := fun h tp dd its n sl X htp => by
    refine Bool.eq_false_iff.mpr fun q => ?_
    cases Value.ref.inj (beq_iff_eq.mp q)
    obtain ⟨cd, e, _⟩ := Option.bind_eq_some_iff.mp c.hm
    unfold PySem.W.clsIn at e
    split at e
    · rename_i ho
      have z := (X _ _ ho).symm.trans htp
      cases z
    · cases e
  ca := fun X I k => I.class_of X c.hg c.ha c.hn c.ht c.hm k
end
section
variable {X : Cx} {ea C : Addr} {oe : Obj}
end
end L2

set_option Elab.async false
set_option linter.all false
set_option maxRecDepth 100000
set_option maxHeartbeats 4000000
namespace L2
open PySem PySem.Spec PySem.Calls PySem.W PyProof.Rows Builtin Builtin.ObjectAttr Builtin.Getset_descriptor
theorem entry_bx : entryFor table "BaseException.__getattribute__" = some Builtin.«object.__getattribute__» := entryFor_alias (id' := "object.__getattribute__") (by kernel_rfl) rfl (by decide +kernel) (by kernel_rfl)
theorem plain_bx : plainId "BaseException.__getattribute__" = true := by decide +kernel
theorem type_bx : typeOf (.builtin "BaseException.__getattribute__") = pure (.type "wrapper_descriptor") := by with_unfolding_all rfl
theorem args_bx (a b : Value) : argsOk "BaseException.__getattribute__" { pos := [a, b] } := by with_unfolding_all rfl
theorem kind_bx : builtinKind "BaseException.__getattribute__" = some .slot := by decide +kernel
theorem split_bx : splitId "BaseException.__getattribute__" = some ("BaseException", "__getattribute__") := by decide +kernel
end L2

set_option Elab.async false
set_option linter.all false
set_option maxRecDepth 100000
set_option maxHeartbeats 4000000
namespace L2
open PySem PySem.Spec PySem.Calls PySem.W PyProof.Rows Builtin Builtin.ObjectAttr Builtin.Getset_descriptor
section
variable {P : Program} {w : World} {A : Around} {E : Value → Shared → Prop} {s : Shared} {K : PySem.W.Frag} {x C : Addr}
theorem check_bx {Q : Unit → Shared → Prop} {b : Value} (I : OfCls s.heap x C) (X : K.In s.heap) (hb : mroIn K C (.type "BaseException") = some true) (h : Q () s) : wpAny (model P w) A (checkBuiltinCall "BaseException.__getattribute__" { pos := [.ref x, b] }) Q E s := by
  obtain ⟨hh, g, d, t, os⟩ := s
  unfold checkBuiltinCall
  rw [kind_bx, split_bx]
  dsimp only
  have L0 := I.type (M := model P w)
  have L4 := looks_mroIn (M := model P w) X hb
  refine wpAny_bind ?_
  unfold isInstance
  refine wpAny_bind (L0.at ?_)
  refine L4.at ?_
  rw [if_neg (by decide)]
  have e := args_bx (.ref x) b
  unfold argsOk at e
  revert e
  cases Manifest.signature? "BaseException.__getattribute__" with
  | none => intro _; exact wpAny_pure h
  | some sig => intro e; dsimp only at e ⊢; rw [e]; exact wpAny_pure h
/-- e.__class__ of an exception of an own class -/
theorem OfCls.class_ofX {Q : Option Value → Shared → Prop} (I : OfCls s.heap x C) (X : K.In s.heap) (hg1 : findIn K (.ref C) "__getattribute__" = some (some (.builtin "BaseException.__getattribute__"))) (hg2 : findIn K (.ref C) "__getattr__" = some none) (hb : mroIn K C (.type "BaseException") = some true)
    (ha : findIn K (.ref C) "__class__" = some (some (.builtin "object.__class__")))
    (hn : specialIn K (.builtin "object.__class__") "__get__" = some (some (.builtin "getset_descriptor.__get__"))) (ht : takesIn K (.builtin "object.__class__") = some true) (hm : mroIn K C (.type "object") = some true)
    (h : Q (some (.ref C)) { s with toks := s.toks + 1 }) : wpAny (model P w) A (getAttr? (.ref x) "__class__") Q E s := by
  obtain ⟨hh, g, d, t, os⟩ := s
  have L0 := I.type (M := model P w)
  have L1 := looks_findIn (M := model P w) X hg1
  have L2 := looks_findIn (M := model P w) X hg2
  have L3 := OfCls.finds (M := model P w) (x := x) X ha hn ht
  have L4 := looks_mroIn (M := model P w) X hm
  unfold getAttr? getAttrBy? getAttrBy
  refine wpAny_bind (wpAny_mkText (wpAny_bind (wpAny_attempt (wpAny_holding (wpAny_bind (L0.at (wpAny_bind (L1.at ?_))))))))
  dsimp only
  rw [if_neg (by intro z; exact absurd (Bool.and_eq_true _ _ ▸ z : _ ∧ _).2 (by decide))]
  unfold getAttrByItsOwn hookBefore
  rw [if_pos (by rfl)]
  refine wpAny_bind (L2.at ?_)
  refine wpAny_bind (wpAny_attempt (wpAny_holding ?_))
  unfold callGetattribute
  rw [if_neg (by decide)]
  unfold boundAndCalled bindSpecial
  rw [type_bx]
  refine wpAny_bind (wpAny_bind (wpAny_pure ?_))
  rw [if_pos (by decide)]
  refine wpAny_pure ?_
  dsimp only [List.cons_append, List.nil_append]
  refine wpAny_call (codeAny_call_builtin plain_bx entry_bx (check_bx (K := K) I X hb ?_))
  unfold Builtin.«object.__getattribute__»
  refine wpAny_bind (show wpAny _ _ (pure (Value.ref x, [Value.str "__class__" t])) _ _ _ from wpAny_pure ?_)
  dsimp only
  refine wpAny_bind (show wpAny _ _ (pure ("__class__" : Str)) _ _ _ from wpAny_pure ?_)
  refine wpAny_bind (L0.at (wpAny_bind (L3.at ?_)))
  dsimp only
  unfold bindTo
  dsimp only
  refine wpAny_bind (wpAny_holding (wpAny_call ?_))
  refine codeAny_call_builtin KF.slot_gs.plain KF.entry_gs (KF.slot_gs.check _ _ _ _ _ _ _ _ KF.type_class (KF.args_gs _ _ _) ?_)
  simp only [Builtin.«getset_descriptor.__get__», descrGet, dga_obj, descrGetter, descrCheckInstance, descrNameAndClass, isInstance, KF.owner_class]
  refine wpAny_bind (wpAny_pure ?_)
  simp only [KF.owner_class]
  repeat lk
  refine ⟨Code.quiet_builtin _ (by decide +kernel), codeAny_builtin KF.entry_class ?_⟩
  simp only [Builtin.«object.__class__», shownTypeOf]
  repeat lk
  exact h
/-- what isinstance asks of an exception of an own class -/
structure ClsY (K : PySem.W.Frag) (C : Addr) : Prop where
  hg1 : findIn K (.ref C) "__getattribute__" = some (some (.builtin "BaseException.__getattribute__"))
  hg2 : findIn K (.ref C) "__getattr__" = some none
  hb : mroIn K C (.type "BaseException") = some true
  ha : findIn K (.ref C) "__class__" = some (some (.builtin "object.__class__"))
  hn : specialIn K (.builtin "object.__class__") "__get__" = some (some (.builtin "getset_descriptor.__get__"))
  ht : takesIn K (.builtin "object.__class__") = some true
  hm : mroIn K C (.type "object") = some true
  hk : kitCls K (.ref C) (.ref C) = some true
theorem ClsY.kit (c : ClsY K C) : KitX K (.ref x) (.ref C) fun h => OfCls h x C where
  ty := fun _ _ _ I => I.type
  it := fun _ _ X _ => (kit_cls X c.hk).2.1
  ne := fun h tp dd its n sl X htp => by
    refine Bool.eq_false_iff.mpr fun q => ?_
    cases Value.ref.inj (beq_iff_eq.mp q)
    obtain ⟨cd, e, _⟩ := Option.bind_eq_some_iff.mp c.hm
    unfold PySem.W.clsIn at e
    split at e
    · rename_i ho
      have z := (X _ _ ho).symm.trans htp
      cases z
    · cases e
  ca := fun X I k => I.class_ofX X c.hg1 c.hg2 c.hb c.ha c.hn c.ht c.hm k
end
section
variable {X : Cx} {ea C : Addr} {oe : Obj}
theorem c_isY (c : ClsY X.K C) (hp : (ea, oe) ∈ X.pn) (hc : oe.cls = .ref C) : CallR X (.builtin "isinstance") (rIsX X.K C ea) := call_isX c.kit hp hc
end
end L2

set_option Elab.async false
set_option linter.all false
set_option maxRecDepth 100000
set_option maxHeartbeats 4000000
namespace L2
open PySem PySem.Spec PyProof.Rows
/-! ### a try of some clauses -/
/-- what the clauses do with an exception of the class C at ea -/
abbrev TH := Addr → Addr → Option Addr → TS
structure BH (X : Cx) (hs : List ExceptHandler) (t : TH) : Prop where
  h : ∀ (pins : List (Addr × Obj)) (s : Shared) (σ : St) (H : Hp) (D : Ends) (C ea T : Addr) (dc : Option Addr), Inv X pins σ H s → FlyT s.heap ea T (.ref C) dc → Apart X pins H ea → Apart X pins H T → t C ea dc D σ H → wpAny (model X.prog X.w) X.A (handleBy (.ref ea) X.env hs) (SP X pins D) X.xe s
/-- a clause with a name, a clause without one -/
def tHas (K : PySem.W.Frag) (i : Nat) (C' : Addr) (th tr : TH) : TH := fun C ea dc D σ H => ∃ b, PySem.W.kitCls K (.ref C) (.ref C') = some b ∧ if b = true then th C ea dc (D.gone i) (σ.set i (some (.ref ea))) H else tr C ea dc D σ H
def tH0 (K : PySem.W.Frag) (C' : Addr) (th tr : TH) : TH := fun C ea dc D σ H => ∃ b, PySem.W.kitCls K (.ref C) (.ref C') = some b ∧ if b = true then th C ea dc D σ H else tr C ea dc D σ H
def tHN : TH := fun _ _ _ _ _ _ => False
def tTryN (tb : (St → XK) → TS) (th : TH) : TS := fun D σ H => tb (fun σ' cls dc H' => ∃ C, cls = .ref C ∧ ∀ ea, H' ea = none → th C ea dc D σ' H') D σ H
/-- an exception made while none was handled: it has no context -/
def CtxN (oe : Obj) : Prop := ∃ vs, oe.data = .fields vs ∧ vs[2]? = some .none
section
variable {X : Cx} {i : Nat} {x n : Str} {C' : Addr} {body suite : List Stmt} {b₀ : Stmt} {tb : (St → XK) → TS} {th tr : TH} {np hpos pos : Pos} {hs : List ExceptHandler} {h₀ : ExceptHandler}
theorem SP.unheldX {pins : List (Addr × Obj)} {D : Ends} {f : Flow} {s' : Shared} {ea : Addr} {oe : Obj} (ok : X.Ok) (h : SP (X.heldX ea oe) pins D f s') : SP X pins D f s' := by
  cases f with
  | next => obtain ⟨σ', H', I, q⟩ := h; exact ⟨σ', H', I.unheldX ok, q⟩
  | brk => obtain ⟨σ', H', I, q⟩ := h; exact ⟨σ', H', I.unheldX ok, q⟩
  | cont => obtain ⟨σ', H', I, q⟩ := h; exact ⟨σ', H', I.unheldX ok, q⟩
  | ret u => obtain ⟨v, σ', H', I, r, q⟩ := h; exact ⟨v, σ', H', I.unheldX ok, r, q⟩
/-- none is left: nothing comes here -/
theorem bh_nil : BH X [] tHN := ⟨fun _ _ _ _ _ _ _ _ _ _ _ _ _ h => h.elim⟩
theorem bh_asH (hx : X.ex = []) (hst : X.stack = X.env :: X.outer) (hN : X.N.Nodup) (hi : X.N[i]? = some n) (hk : X.env.scope.names.lookup n = some .local)
    (hm : X.mg x = some (.ref C')) (hC' : PySem.W.kitCls X.K (.ref C') (.type "BaseException") = some true) (hs1 : ∀ C ea oe dc, oe.cls = .ref C → oe.dict = dc → PySem.W.notCls oe = true → CtxN oe → BSs (X.heldX ea oe) (b₀ :: suite) (th C ea dc)) (hr : BH X hs tr)
    (hg : Gl X x := by rfl) (hdb : (x == ("__debug__" : Str)) = false := by decide) : BH X (.ExceptHandler (some (.Name x np)) (some n) (b₀ :: suite) hpos :: hs) (tHas X.K i C' th tr) := ⟨by
  intro pins s1 σ1 H1 D C ea T dc I2 F2 a1 a3 ⟨b, hC, ht⟩
  have J2 := I2.held (.ref ea) fun _ _ => False
  refine wpAny_handleBy_cons (codeAny_handlers_test (ld_glob J2 hg hm ?_ hdb)) (by intro q; cases q)
  obtain ⟨oe, _, _, _, he, hcl, _⟩ := id F2
  refine matches_own I2.kIn ⟨oe, he, hcl⟩ hC' hC ?_
  cases b with
  | false => exact hr.h pins s1 σ1 H1 D C ea T dc I2 F2 a1 a3 ht
  | true =>
    refine codeAny_handlers_suite_as ?_
    refine fly_land (l := X.env :: X.outer) (hst ▸ I2.stack) F2 fun h3 T3 F3 n3 Fl3 => ?_
    have I3 : Inv X pins σ1 H1 { s1 with heap := h3 } := I2.flownA (t' := s1.toks) (hst ▸ Fl3) a1 a3
    obtain ⟨o3, vs3, _, _, he3, hcl3, hdc3, hd3, _, _, _, _, _, hx3⟩ := id F3
    have J3 := I3.heldX (oe := o3) a1 he3 fun v z => by rw [hd3] at z; cases z
    refine store_ok (X := X.heldX ea o3) (v := .ref ea) J3 hN hi (.inl hk) rfl (fun s4 I4 => ?_) (.inr hk)
    refine wpAny_mono ((hs1 C ea o3 dc hcl3 hdc3 (by unfold PySem.W.notCls; rw [hd3]) ⟨vs3, hd3, hx3⟩).h pins s4 _ H1 (D.gone i) I4 ht) (fun f s5 q => ?_) fun _ _ q => q.elim
    have q' := SP.unheldX I2.ok q
    cases f with
    | next => obtain ⟨σ', H', I5, r⟩ := q'; exact name_goes I5 hN hi hk fun s6 I6 => ⟨_, _, I6, r⟩
    | brk => obtain ⟨σ', H', I5, r⟩ := q'; exact name_goes I5 hN hi hk fun s6 I6 => ⟨_, _, I6, r⟩
    | cont => obtain ⟨σ', H', I5, r⟩ := q'; exact name_goes I5 hN hi hk fun s6 I6 => ⟨_, _, I6, r⟩
    | ret u => obtain ⟨v, σ', H', I5, rv, r⟩ := q'; exact name_goes I5 hN hi hk fun s6 I6 => ⟨v, _, _, I6, rv, r⟩⟩
theorem bh_as (hx : X.ex = []) (hst : X.stack = X.env :: X.outer) (hN : X.N.Nodup) (hi : X.N[i]? = some n) (hk : X.env.scope.names.lookup n = some .local)
    (hm : X.mg x = some (.ref C')) (hC' : PySem.W.kitCls X.K (.ref C') (.type "BaseException") = some true) (hs1 : ∀ C ea oe dc, oe.cls = .ref C → oe.dict = dc → PySem.W.notCls oe = true → BSs (X.heldX ea oe) (b₀ :: suite) (th C ea dc)) (hr : BH X hs tr)
    (hg : Gl X x := by rfl) (hdb : (x == ("__debug__" : Str)) = false := by decide) : BH X (.ExceptHandler (some (.Name x np)) (some n) (b₀ :: suite) hpos :: hs) (tHas X.K i C' th tr) :=
  bh_asH hx hst hN hi hk hm hC' (fun C ea oe dc a b c _ => hs1 C ea oe dc a b c) hr hg hdb
theorem bh_0 (hx : X.ex = []) (hst : X.stack = X.env :: X.outer)
    (hm : X.mg x = some (.ref C')) (hC' : PySem.W.kitCls X.K (.ref C') (.type "BaseException") = some true) (hs1 : ∀ C ea oe dc, oe.cls = .ref C → oe.dict = dc → PySem.W.notCls oe = true → BSs (X.heldX ea oe) (b₀ :: suite) (th C ea dc)) (hr : BH X hs tr)
    (hg : Gl X x := by rfl) (hdb : (x == ("__debug__" : Str)) = false := by decide) : BH X (.ExceptHandler (some (.Name x np)) none (b₀ :: suite) hpos :: hs) (tH0 X.K C' th tr) := ⟨by
  intro pins s1 σ1 H1 D C ea T dc I2 F2 a1 a3 ⟨b, hC, ht⟩
  have J2 := I2.held (.ref ea) fun _ _ => False
  refine wpAny_handleBy_cons (codeAny_handlers_test (ld_glob J2 hg hm ?_ hdb)) (by intro q; cases q)
  obtain ⟨oe, _, _, _, he, hcl, _⟩ := id F2
  refine matches_own I2.kIn ⟨oe, he, hcl⟩ hC' hC ?_
  cases b with
  | false => exact hr.h pins s1 σ1 H1 D C ea T dc I2 F2 a1 a3 ht
  | true =>
    refine codeAny_handlers_suite ?_
    refine fly_land (l := X.env :: X.outer) (hst ▸ I2.stack) F2 fun h3 T3 F3 n3 Fl3 => ?_
    have I3 : Inv X pins σ1 H1 { s1 with heap := h3 } := I2.flownA (t' := s1.toks) (hst ▸ Fl3) a1 a3
    obtain ⟨o3, _, _, _, he3, hcl3, hdc3, hd3, _⟩ := id F3
    have J3 := I3.heldX (oe := o3) a1 he3 fun v z => by rw [hd3] at z; cases z
    exact wpAny_mono ((hs1 C ea o3 dc hcl3 hdc3 (by unfold PySem.W.notCls; rw [hd3])).h pins _ _ H1 D J3 ht) (fun f s5 q => SP.unheldX I2.ok q) fun _ _ q => q.elim⟩
theorem bs_try (hx : X.ex = []) (hst : X.stack = X.env :: X.outer) (hfr : X.env.frame = some X.env.locals) (hb : ∀ pins EX, BSs (X.tried pins EX) body (tb EX)) (hh : BH X (h₀ :: hs) th) :
    BS X (.Try body (h₀ :: hs) [] [] pos) (tTryN tb th) := ⟨by
  intro pins s σ H D I h
  refine wpAny_Try_except (wpAny_mono ((hb pins _).h [] s σ H D I.tried h) (fun f s1 q => ?_) fun e s1 q => ?_)
  · have q' := SP.untried q
    cases f with
    | next => exact wpAny_execs_nil q'
    | brk => exact q'
    | cont => exact q'
    | ret u => exact q'
  · obtain ⟨ea, T, cls, dc, σ1, H1, rfl, I1, F1, e1, e2, e3, e4, e5, e6, e7, C, rfl, ht⟩ := q
    have a1 : Apart X pins H1 ea := ⟨e1, e3, fun p hp => (e5 p hp).1, e6.1, fun x c e => (e7 x c e).1⟩
    have a2 : Apart X pins H1 T := ⟨e2, e4, fun p hp => (e5 p hp).2, e6.2, fun x c e => (e7 x c e).2⟩
    have fr : X.A.frames = some (X.env :: X.outer) := by rw [I.ok.frames, hst]
    refine fly_next fr hfr (hst ▸ I1.stack) F1 fun h2 T2 F2 n2 Fl2 => ?_
    have I2 : Inv X pins σ1 H1 { s1 with heap := h2 } := I1.flownA (t' := s1.toks) (hst ▸ Fl2) a1 a2
    exact hh.h pins _ σ1 H1 D C ea T2 dc I2 F2 a1 (a2.next I1 hx n2) (ht ea e3)⟩
end
end L2

set_option Elab.async false
set_option linter.all false
set_option maxRecDepth 100000
set_option maxHeartbeats 4000000
namespace L2
open PySem PySem.Spec PyProof.Rows
section
variable {X : Cx} {ea C : Addr} {oe : Obj} {K : PySem.W.Frag}
/-- isinstance of the exception that is held: its class is known only when it comes -/
def rIsXC (K : PySem.W.Frag) (C ea : Addr) : List V → Hp → VK → Prop := fun xs H Q => ClsY K C ∧ rIsX K C ea xs H Q
theorem c_isXC (hp : (ea, oe) ∈ X.pn) (hc : oe.cls = .ref C) : CallR X (.builtin "isinstance") (rIsXC X.K C ea) := fun pins s σ H xs us Q I r h => c_isY h.1 hp hc pins s σ H xs us Q I r h.2
theorem c_isH (hc : oe.cls = .ref C) : CallR (X.heldX ea oe) (.builtin "isinstance") (rIsXC X.K C ea) := c_isXC List.mem_cons_self hc
theorem triedK {pins : List (Addr × Obj)} {EX : St → XK} : (X.tried pins EX).K = X.K := rfl
theorem heldXK : (X.heldX ea oe).K = X.K := rfl
theorem rd_isX1 {H : Hp} {Q : VK} {c : V} {b : Bool} (z : ClsY K C) (h1 : isCl c = true) (h2 : PySem.W.kitOne K (.ref C) (vcl c) = some b) (q : Q (.bl b) H) : rIsXC K C ea [.ref ea, c] H Q := ⟨z, c, b, rfl, .inl ⟨h1, h2⟩, q⟩
end
section
variable {σ : St} {H : Hp} {D : Ends} {E : XK} {C : Addr} {Q : VK}
instance e1 {t : TA} : RdS (tRaise E C t D σ H) (t σ H fun vs H1 => mkR E C vs H1) := ⟨id⟩
instance e2 {sp : Sp} {t : TA} {EX : St → XK} : RdS (tCallS sp [] EX t σ H Q) (t σ H fun vs H1 => sp vs H1 Q (EX σ)) := ⟨fun h => by
  unfold tCallS
  simpa only [List.append_nil] using h⟩
instance e3 {tb : (St → XK) → TS} {th : TH} : RdS (tTryN tb th D σ H) (tb (fun σ' cls dc H' => ∃ C, cls = .ref C ∧ ∀ ea, H' ea = none → th C ea dc D σ' H') D σ H) := ⟨id⟩
end
end L2
namespace L2
open PySem PySem.Spec PyProof.Rows
end L2

set_option Elab.async false
set_option linter.all false
set_option maxRecDepth 100000
set_option maxHeartbeats 4000000
namespace PySem
open Sem (wp)
/-! ### an own error class some steps under a built-in one, with its own __init__ -/
section
variable {prog : Program} {w : World} {A : Around} {E : Value → Shared → Prop} {h : Heap} {g : Array GenState} {d : Drawn} {t : Nat} {os : OsState}
variable {nm q : Str} {C N : Addr} {bs bm bmB : List Value} {hdct : Bool} {sn : List Str} {sub : List Value} {ab : Bool} {col : Option Bool} {dd : Option Addr} {k0 k1 k2 k3 k5 : Option Value} {B newId initId : String}
theorem exd_type_call (F : ExcBaseFacts B newId initId bmB) (T : OwnTail h bmB bm) {mN : Str → Option Value} {rest : List Value} {fI : Addr} {oI : Obj} {Q : Fin → Shared → Prop}
    (hC : h.get? C = some (excClassObj nm q C N bs bm hdct sn sub ab col dd k0 k1 k2 k3 k5 newId)) (hn : h.Ns N mN) (hi : mN "__init__" = some (.ref fI))
    (hfI : h.get? fI = some oI) (hfc : oI.cls = .type "function") (hz : rest.length ≤ sizeLine)
    (hq : ∀ h1 e, h.objs.size ≤ e → Heap.MadeExcOf h h1 e (.ref C) rest → wpAny (model prog w) A (call (.ref fI) (.ref e :: rest)) (fun r s' => r = .none ∧ Q (.done (.ret (.ref e))) s') E ⟨h1, g, d, t, os⟩) :
    wpAny (model prog w) A (Builtin.«type.__call__» ⟨.ref C :: rest, []⟩) Q E ⟨h, g, d, t, os⟩ := by
  repeat (first | with_reducible refine wpAny_loadPart_at hC ?_ | with_reducible refine wpAny_madeBy_exc hC ?_ | wp_step)
  refine codeAny_call_builtin_code (Code.quiet_builtin _ F.quiet) (wpAny_check_new_subT F T hC ?_)
  refine codeAny_exc_new_subT F T hC ?_ hz
  show wpAny _ _ _ _ _ _
  obtain ⟨oT, hoT⟩ : ∃ oT : Obj, oT = { cls := .type "tuple", data := .seq rest.toArray } := ⟨_, rfl⟩
  obtain ⟨oX, hoX⟩ : ∃ oX : Obj, oX = { cls := .ref C, data := .fields #[.ref h.objs.size, .none, .none, .none, .bool false, .none] } := ⟨_, rfl⟩
  rw [← hoT, ← hoX]
  have kp : ∀ b o, h.get? b = some o → ((h.push oT).push oX).get? b = some o := fun b o e => Heap.get?_push_of_some _ (Heap.get?_push_of_some _ e)
  have hC1 := kp _ _ hC
  have hf1 := kp _ _ hfI
  have hn1 : ((h.push oT).push oX).Ns N mN := let ⟨o, es, ep, e, r⟩ := hn; ⟨o, es, ep, kp _ _ e, r⟩
  have T1 := T.keeps kp
  have hg : ((h.push oT).push oX).get? (h.objs.size + 1) = some oX := by subst hoT hoX; heap_get
  have hX : oX.cls = .ref C := by rw [hoX]
  have hin : (Value.ref C :: bm).contains (.ref C) = true := by simp
  unfold isInstance
  repeat (first | (with_reducible refine wpAny_loadPart_at hg ?_; rw [hX]) | (with_reducible refine wpAny_isSubtype_exc hC1 ?_; rw [hin]) | wp_step)
  show wpAny _ _ (typeLookup (.ref C) _) _ _ _
  refine wpAny_typeLookup_tail hC1 hn1 T1 F.mroIs F.init.lookup ?_
  rw [hi]
  refine wpAny_holding (wpAny_bind ?_)
  unfold bindSpecial
  refine wpAny_bind (wpAny_typeOf (T := "function") ⟨_, hf1, hfc⟩ ?_)
  rw [if_pos (by decide)]
  have made : Heap.MadeExcOf h ((h.push oT).push oX) (h.objs.size + 1) (.ref C) rest := by
    subst hoT hoX
    exact ⟨kp, Heap.get?_none_of_le (Nat.le_succ _), h.objs.size, hg, Heap.get?_none_of_le (Nat.le_refl _), Heap.get?_push_of_some _ (Heap.get?_push_at rfl rfl)⟩
  refine wpAny_pure (wpAny_bind (wpAny_mono (hq _ _ (Nat.le_succ _) made) (fun r s' hr => ?_) fun _ _ z => z))
  obtain ⟨rfl, hQ⟩ := hr
  wp_walk
  exact hQ
theorem exd_call (F : ExcBaseFacts B newId initId bmB) (T : OwnTail h bmB bm) {mN : Str → Option Value} {rest : List Value} {fI : Addr} {oI : Obj} {Q : Value → Shared → Prop}
    (hC : h.get? C = some (excClassObj nm q C N bs bm hdct sn sub ab col dd k0 k1 k2 k3 k5 newId)) (hn : h.Ns N mN) (hi : mN "__init__" = some (.ref fI))
    (hfI : h.get? fI = some oI) (hfc : oI.cls = .type "function") (hz : rest.length ≤ sizeLine)
    (hq : ∀ h1 e, h.objs.size ≤ e → Heap.MadeExcOf h h1 e (.ref C) rest → wpAny (model prog w) (A.under (.builtin "type.__call__" ⟨.ref C :: rest, []⟩)) (call (.ref fI) (.ref e :: rest)) (fun r s' => r = .none ∧ Q (.ref e) s') E ⟨h1, g, d, t, os⟩) :
    wpAny (model prog w) A (call (.ref C) rest) Q E ⟨h, g, d, t, os⟩ := by
  have e1 := tc_lookup
  have e2 := tc_bind (.ref C)
  have ty : (⟨h, g, d, t, os⟩ : Shared).TypeIs (.ref C) "type" := ⟨_, hC, rfl⟩
  refine wpAny_call (codeAny_of_tree ?_)
  show wpAny _ _ (callAny (.ref C) _) _ _ _
  repeat (any_goals (first | assumption | with_reducible refine wpAny_loadPart_at hC ?_ | wp_step))
  refine ⟨rfl, ?_⟩
  refine codeAny_call_builtin_at (Code.quiet_builtin _ (by decide +kernel)) entry_typeCall (wpAny_check_type_call_sub hC ?_)
  exact exd_type_call F T hC hn hi hfI hfc hz fun h1 e hl hm => hq h1 e hl hm
end
section
variable {M : Model} {A : Around} {E : Value → Shared → Prop} {env : Env}
variable {nm q : Str} {C N : Addr} {bs bm : List Value} {hdct : Bool} {sn : List Str} {sub : List Value} {ab : Bool} {col : Option Bool} {dd : Option Addr} {k0 k1 k2 k3 k5 : Option Value} {newId : String}
theorem exd_raise {s : Shared} {x : Sem Value} {Q : Flow → Shared → Prop} (hbase : bm.contains (.type "BaseException") = true) (hh : A.handled = none)
    (h : wpAny M A x (fun v s1 => ∃ e oe t, v = .ref e ∧ s1.heap.get? C = some (excClassObj nm q C N bs bm hdct sn sub ab col dd k0 k1 k2 k3 k5 newId) ∧ s1.heap.get? e = some oe ∧ oe.cls = .ref C ∧ oe.data = .fields #[.ref t, .none, .none, .none, .bool false, .none] ∧ E (.ref e) s1) E s) :
    wpAny M A (raiseStmt env (some x) none) Q E s := by
  have hin : (Value.ref C :: bm).contains (.type "BaseException") = true := by rw [List.contains_cons, hbase, Bool.or_true]
  unfold raiseStmt
  refine wpAny_bind (wpAny_mono h (fun v s1 z => ?_) fun _ _ z => z)
  obtain ⟨e, oe, t, rfl, hC, he, hc, hd, hE⟩ := z
  obtain ⟨ocls, odict, odata, oslots⟩ := oe
  simp only at hc hd
  subst hc hd
  obtain ⟨hp, gs, dr, tk, os⟩ := s1
  repeat (first | with_reducible refine wpAny_loadPart_at he ?_ | with_reducible refine wpAny_loadPart_at hC ?_ | (with_reducible refine wpAny_isSubtype_exc hC ?_; rw [hin]) | wp_step)
  exact wpAny_raiseNew_none hh hE
end
end PySem

set_option Elab.async false
set_option linter.all false
set_option maxRecDepth 100000
set_option maxHeartbeats 4000000
namespace L2
open PySem PySem.Spec PySem.Calls PySem.W PyProof.Rows Builtin Builtin.ObjectAttr Builtin.Getset_descriptor
section
variable {P : Program} {w : World} {A : Around} {E : Value → Shared → Prop} {s : Shared} {K : PySem.W.Frag} {x C : Addr} {ox od : Obj} {name : Str} {v : Value}
/-- e.f of an exception of an own class that holds f in its own dict -/
theorem exc_get {expr : Bool} {Q : Value → Shared → Prop} (X : K.In s.heap) (I : InstAt s.heap x ox C (some od)) (hg1 : findIn K (.ref C) "__getattribute__" = some (some (.builtin "BaseException.__getattribute__"))) (hg2 : findIn K (.ref C) "__getattr__" = some none) (hb : mroIn K C (.type "BaseException") = some true)
    (hf : findObj K C (some od) name = some (.value v)) (hh : handedIn v = true) (h : Q v { s with toks := s.toks + 1 }) : wpAny (model P w) A (getAttr (.ref x) name expr) Q E s := by
  have I0 : OfCls s.heap x C := ⟨ox, I.at_, I.cls⟩
  have L0 := I.type (M := model P w)
  have L1 := looks_findIn (M := model P w) X hg1
  have L2 := looks_findIn (M := model P w) X hg2
  have L3 := looks_find (M := model P w) X I hf
  obtain ⟨hp, g, d, t, os⟩ := s
  unfold getAttr getAttrBy
  refine wpAny_bind (wpAny_mkText (wpAny_holding (wpAny_bind (L0.at (wpAny_bind (L1.at ?_))))))
  dsimp only
  rw [if_neg (by intro z; exact absurd (Bool.and_eq_true _ _ ▸ z : _ ∧ _).2 (by decide))]
  unfold getAttrByItsOwn hookBefore
  rw [if_pos (by rfl)]
  refine wpAny_bind (L2.at ?_)
  refine wpAny_bind (wpAny_attempt (wpAny_holding ?_))
  unfold callGetattribute
  rw [if_neg (by intro z; exact absurd (Bool.and_eq_true _ _ ▸ z : _ ∧ _).2 (by decide))]
  unfold boundAndCalled bindSpecial
  rw [type_bx]
  refine wpAny_bind (wpAny_bind (wpAny_pure ?_))
  rw [if_pos (by decide)]
  refine wpAny_pure ?_
  dsimp only [List.cons_append, List.nil_append]
  refine wpAny_call (codeAny_call_builtin plain_bx entry_bx (check_bx (K := K) I0 X hb ?_))
  unfold Builtin.«object.__getattribute__»
  refine wpAny_bind (show wpAny _ _ (pure (Value.ref x, [Value.str name t])) _ _ _ from wpAny_pure ?_)
  dsimp only
  refine wpAny_bind (show wpAny _ _ (pure name) _ _ _ from wpAny_pure ?_)
  refine wpAny_bind (L0.at (wpAny_bind (L3.at ?_)))
  dsimp only
  refine wpAny_pure ?_
  show wpAny _ _ (handedOut v) _ _ _
  rw [handedOut_of hh]
  exact wpAny_pure h
end
end L2

set_option Elab.async false
set_option linter.all false
set_option maxRecDepth 100000
set_option maxHeartbeats 4000000
namespace L2
open PySem PySem.Spec PySem.Calls PySem.W PyProof.Rows Builtin Builtin.ObjectAttr Builtin.Getset_descriptor
/-! ### x.f = v of an exception that has no dict yet -/
def excOver : List Value → Bool
  | .ref _ :: r => excOver r
  | l => l == veMro
theorem refuse_ve (self : Value) : refuseLoop self "__setattr__" veMro = pure () := by kernel_rfl
theorem refuse_exc (self : Value) : ∀ {l : List Value}, excOver l = true → refuseLoop self "__setattr__" l = pure ()
  | .ref c :: r, e => by rw [refuseLoop_ref]; exact refuse_exc self e
  | .type n :: r, e => by rw [show (Value.type n :: r) = veMro from eq_of_beq e]; exact refuse_ve self
  | [], e => by cases e
  | .none :: r, e => by rw [show (Value.none :: r) = veMro from eq_of_beq e]; exact refuse_ve self
  | .bool b :: r, e => by rw [show (Value.bool b :: r) = veMro from eq_of_beq e]; exact refuse_ve self
  | .builtin n :: r, e => by rw [show (Value.builtin n :: r) = veMro from eq_of_beq e]; exact refuse_ve self
  | .int n t :: r, e => by rw [show (Value.int n t :: r) = veMro from eq_of_beq e]; exact refuse_ve self
  | .str n t :: r, e => by rw [show (Value.str n t :: r) = veMro from eq_of_beq e]; exact refuse_ve self
section
variable {P : Program} {w : World} {A : Around} {E : Value → Shared → Prop} {s : Shared} {K : PySem.W.Frag} {x C : Addr} {ox : Obj} {name : Str} {v : Value}
theorem exc_set {cd : ClassData} {Q : Unit → Shared → Prop} (X : K.In s.heap) (I : InstAt s.heap x ox C none) (hnd : ox.dict = none) {vs : Array Value} (hvs : ox.data = .fields vs) (hcd : clsIn K C = some cd) (hov : excOver cd.mro = true) (hdc : cd.hasDict = true) (hm : mroIn K C (.type "object") = some true)
    (hs : findIn K (.ref C) "__setattr__" = some (some (.builtin "object.__setattr__"))) (ha : findIn K (.ref C) name = some none)
    (h : ∀ h1 dx, s.heap.get? dx = none → dx ≠ x → h1.get? x = some { ox with dict := some dx } → h1.Ns1 dx (fun y => if y = name then some v else none) → (∀ b o, s.heap.get? b = some o → b ≠ x → h1.get? b = some o) → Q () { s with heap := h1, toks := s.toks + 2 }) :
    wpAny (model P w) A (setAttr (.ref x) name v) Q E s := by
  have SF := PySem.F.store_object
  have sub : Looks (model P w) s.heap (isInstance (.ref x) (.type "object")) true := I.type.andThen (looks_mroIn X hm)
  have hmr : Looks (model P w) s.heap (mroOf (.ref C)) cd.mro := (looks_clsIn X hcd).andThen .now
  refine set_plain X I hs ?_
  refine codeAny_call_builtin SF.slot.plain SF.entry (@check_slot (model P w) _ _ { s with toks := s.toks + 1 } "object.__setattr__" "object" "__setattr__" (.ref x) [.str name s.toks, v] [] _ SF.kind SF.split sub (SF.args (.ref x) (.str name s.toks) v) ?_)
  rw [osa_eq, refuse_eq]
  refine wpAny_bind (wpAny_bind (I.type.here (s := { s with toks := s.toks + 1 }) (wpAny_bind (hmr.here (s := { s with toks := s.toks + 1 }) ?_))))
  rw [refuse_exc _ hov]
  refine wpAny_pure (wpAny_bind (I.type.here (s := { s with toks := s.toks + 1 }) (wpAny_bind ((looks_findIn X ha).here (s := { s with toks := s.toks + 1 }) (wpAny_bind (wpAny_pure ?_))))))
  show wpAny _ _ (storeInOwnDict (.ref x) (.ref C) (.str name s.toks) name v false) _ _ _
  unfold storeInOwnDict
  refine wpAny_bind (wpAny_pure (wpAny_bind ?_))
  obtain ⟨ocl, odi, oda, osl⟩ := ox
  have e1 : ocl = .ref C := I.cls
  have e2 : odi = none := hnd
  have e3 : oda = .fields vs := hvs
  subst e1 e2 e3
  unfold ownDictForStores instanceDict
  refine wpAny_bind (wpAny_loadPart (s := { s with toks := s.toks + 1 }) I.at_ ?_)
  dsimp only
  refine wpAny_bind (Looks.here (s := { s with toks := s.toks + 1 }) (looks_clsIn X hcd) ?_)
  rw [hdc]
  simp only [Bool.not_true, Bool.false_eq_true, if_false]
  rw [if_neg (show ¬ (false || !typeHasDict (Value.ref C)) = true from Bool.false_ne_true)]
  refine wpAny_bind (wpAny_alloc ?_)
  have g1 : (s.heap.push { cls := Value.type "dict", data := Data.dict #[] }).get? x = some { cls := Value.ref C, data := Data.fields vs, slots := osl } := Heap.get?_push_of_some _ I.at_
  have hne : s.heap.objs.size ≠ x := Nat.ne_of_gt (Heap.lt_size I.at_)
  refine wpAny_bind (wpAny_update (s := { s with heap := s.heap.push { cls := Value.type "dict", data := Data.dict #[] }, toks := s.toks + 1 }) g1 ?_)
  refine wpAny_pure ?_
  dsimp only
  have g2 := Heap.get?_update_self (h := s.heap.push { cls := Value.type "dict", data := Data.dict #[] }) (fun o : Obj => ({ cls := o.cls, dict := some s.heap.objs.size, data := o.data, slots := o.slots } : Obj)) g1 rfl
  have g3 : ((s.heap.push { cls := Value.type "dict", data := Data.dict #[] }).update x fun o : Obj => ({ cls := o.cls, dict := some s.heap.objs.size, data := o.data, slots := o.slots } : Obj)).get? s.heap.objs.size = some { cls := Value.type "dict", data := Data.dict #[] } := by
    rw [Heap.get?_update_other _ _ (Ne.symm hne)]
    exact Heap.get?_push_size _ rfl
  have g4 : ∀ b o, s.heap.get? b = some o → b ≠ x → ((s.heap.push { cls := Value.type "dict", data := Data.dict #[] }).update x fun o : Obj => ({ cls := o.cls, dict := some s.heap.objs.size, data := o.data, slots := o.slots } : Obj)).get? b = some o := fun b o q n => by
    rw [Heap.get?_update_other _ _ (Ne.symm n)]
    exact Heap.get?_push_of_some _ q
  generalize ((s.heap.push { cls := Value.type "dict", data := Data.dict #[] }).update x fun o : Obj => ({ cls := o.cls, dict := some s.heap.objs.size, data := o.data, slots := o.slots } : Obj)) = h2 at *
  have n1 : h2.Ns1 s.heap.objs.size fun _ => none := Heap.Ns1.of_empty ⟨_, _, _, g3, rfl, (fun e he => by simp at he), fun y => rfl⟩
  unfold storeInDict
  refine wpAny_bind (wpAny_pure (wpAny_bind ?_))
  refine wpAny_nsSet1 (s := { s with heap := h2, toks := s.toks + 1 }) n1 fun h3 m3 b3 => ?_
  obtain ⟨oD, esD, epD, hoD, hdD, hcD⟩ := m3.count (ns := [name]) (PySem.Within.cons name v PySem.Within.nil)
  refine wpAny_bind (wpAny_lookBehind hoD (by rw [hdD]; exact pastItsLine_dict (Nat.le_trans hcD (by rw [sizeLine_eq]; show 1 ≤ 16777216 + 1; decide))) ?_)
  refine wpAny_pure ?_
  exact h h3 s.heap.objs.size (Heap.get?_none_of_le (Nat.le_refl _)) hne ((b3.2 x (Ne.symm hne)).trans g2) m3 fun b o q n => (b3.2 b (fun z => by rw [z, Heap.get?_none_of_le (Nat.le_refl _)] at q; cases q)).trans (g4 b o q n)
end
end L2

set_option Elab.async false
set_option linter.all false
set_option maxRecDepth 100000
set_option maxHeartbeats 4000000
namespace L2
open PySem PySem.Spec PyProof.Rows
/-! ### an exception that is being made: tracked while its __init__ runs -/
def ExcO (C ea : Addr) (dc : Option Addr) (h : Heap) : Prop := ∃ t, h.get? ea = some { cls := .ref C, dict := dc, data := .fields #[.ref t, .none, .none, .none, .bool false, .none] }
theorem ExcO.ok {P : Program} {w : World} {H : Hp} {h : Heap} {C ea : Addr} {dc : Option Addr} (x : ExcO C ea dc h) : ObjOk P w H h ea (.ext (ExcO C ea dc)) :=
  ⟨x, let ⟨_, e⟩ := x; ⟨_, e⟩, fun _ _ y k => let ⟨t, e⟩ := y; ⟨t, k _ e⟩⟩
/-- what is known of an own error class with an __init__ of its own -/
def excInI (K : PySem.W.Frag) (C : Addr) (bmB : List Value) (newId : String) (f : Addr) : Bool := match K.lookup C with
  | some ⟨.type "type", _, .cls cd, sl⟩ => (match cd.mro, sl.toList with
    | .ref C' :: bm, [_, _, _, _, some (.builtin n), _] => C' == C && n == newId && !cd.hasDel && PySem.W.tailIn K bmB bm && PySem.W.nsOkIn K cd.ns && PySem.W.nsIn K cd.ns "__init__" == some (some (.ref f)) && PySem.W.isFn K (.ref f)
    | _, _ => false)
  | _ => false
structure ExI (K : PySem.W.Frag) (mg : Str → Option Value) (x : Str) (C f : Addr) : Prop where
  mgx : mg x = some (.ref C)
  ei : excInI K C veMro "ValueError.__new__" f = true
theorem Inv.forget {X : Cx} {pins : List (Addr × Obj)} {σ : St} {H : Hp} {s : Shared} {a : Addr} {φ : Heap → Prop} (I : Inv X pins σ H s) (e : H a = some (.ext φ)) : Inv X pins σ (fun b => if b = a then none else H b) s := by
  have hok : HOk X.prog X.w (fun b => if b = a then none else H b) s.heap := fun b o q => by
    by_cases z : b = a
    · have q2 : (if b = a then none else H b) = some o := q
      rw [if_pos z] at q2; cases q2
    · have q2 : (if b = a then none else H b) = some o := q
      have q' : H b = some o := by rw [if_neg z] at q2; exact q2
      refine (I.hok b o q').stay (fun c u _ r => r) (fun c r => ?_) fun c xs r => ?_
      · show (if c = a then none else H c) = _
        rw [if_neg (fun y => by rw [y, e] at r; cases r)]; exact r
      · show (if c = a then none else H c) = _
        rw [if_neg (fun y => by rw [y, e] at r; cases r)]; exact r
  refine I.un (h' := s.heap) (t' := s.toks) ⟨fun b o q _ _ _ => q, fun b o q _ _ _ => ⟨o.slots, q⟩, fun b o _ n _ => ?_, fun b o q _ => ⟨o, q⟩, fun b xs q => ?_, fun b o u q => ?_, fun b ps q => ⟨#[], ?_⟩⟩ hok
  · show (if b = a then none else H b) = none
    split
    · rfl
    · exact n
  · show (if b = a then none else H b) = _
    rw [if_neg (fun y => by rw [y, e] at q; cases q)]; exact q
  · show (if b = a then none else H b) = _
    rw [if_neg (fun y => by rw [y, e] at q; cases q)]; exact q
  · show (if b = a then none else H b) = _
    rw [if_neg (fun y => by rw [y, e] at q; cases q), q]; simp
theorem ns_val {K : PySem.W.Frag} {h : Heap} {N : Addr} {mg : Str → Option Value} {n : Str} {v : Value} (X : K.In h) (G : h.Ns N mg) (e : PySem.W.nsIn K N n = some (some v)) : mg n = some v := by
  obtain ⟨o, es, ep, ho, hd, _, hf⟩ := G
  unfold PySem.W.nsIn at e
  split at e
  · rename_i q
    have z := (X _ _ q).symm.trans ho
    cases z
    cases hd
    split at e
    · rename_i y he
      cases e
      rw [← hf]
      unfold nsFind findBy
      rw [← Array.find?_toList, he]
      rfl
    · split at e <;> cases e
  · cases e
section
variable {X : Cx} {x : Str} {C f : Addr} {fd : FuncData} {k : Nat} {ps : List Str} {sp : Sp} {E : XK} {e : Expr} {es : List Expr} {t : TA} {np cpos pos : Pos}
def tRaiseI (E : XK) (C : Addr) (sp : Sp) (t : TA) : TS := fun _ σ H => t σ H fun vs H1 => vs.length ≤ sizeLine ∧ ∀ ea, H1 ea = none → sp (.ref ea :: vs) (upd H1 ea (.ext (ExcO C ea none))) (fun v H2 => v = .non ∧ ∃ dc, H2 ea = some (.ext (ExcO C ea dc)) ∧ E (.ref C) dc (fun b => if b = ea then none else H2 b)) E0
/-- raise C(..), C with an __init__ of its own -/
theorem bs_raiseI (hT : Throws X E) (hc : X.calm = true) (c : ExI X.K X.mg x C f) (F : FnOk X.prog X.w X.K X.mg X.base CX0 k f fd ps sp) (hr : Room (k + 1) X.A) (hb : Binds X.K fd ps []) (ha : BA X (e :: es) t) (hg : Gl X x := by rfl) (hdb : (x == ("__debug__" : Str)) = false := by decide) (h1 : isStar e = false := by rfl) (h2 : noStar es = true := by rfl) :
    BS X (.Raise (some (.Call (.Name x np) (e :: es) [] cpos)) none pos) (tRaiseI E C sp t) := ⟨by
  intro pins s σ H D I h
  have q := c.ei
  unfold excInI at q
  split at q
  · rename_i dd cdt sl ho
    split at q
    · rename_i C' bm k0 k1 k2 k3 n k5 hm hs
      simp only [Bool.and_eq_true, beq_iff_eq, Bool.not_eq_true'] at q
      obtain ⟨⟨⟨⟨⟨⟨rfl, rfl⟩, hdel⟩, ht⟩, hok⟩, hni⟩, hfn⟩ := q
      obtain ⟨nm, bs, mro, ns, qn, hd, sn, sub, ab, col, del⟩ := cdt
      dsimp only at hm hdel hok hni
      subst hm hdel
      have hsl : sl = #[k0, k1, k2, k3, some (.builtin "ValueError.__new__"), k5] := by
        obtain ⟨l⟩ := sl
        simp only at hs
        rw [hs]
      subst hsl
      have hOT := PySem.W.tail_of_in I.kIn ht
      have hf := beq_iff_eq.mp hfn
      have hbase := hOT.hasType PySem.F.excBase_ValueError.hasBase
      rw [arm_exec_Raise]
      simp only [evalOpt, Option.map]
      refine wpAny_bind (wpAny_standAt (exd_raise (C := C') (nm := nm) (q := qn) (N := ns) (bs := bs) (bm := bm) (hdct := hd) (sn := sn) (sub := sub) (ab := ab) (col := col) (dd := dd) (k0 := k0) (k1 := k1) (k2 := k2) (k3 := k3) (k5 := k5) (newId := "ValueError.__new__") hbase (I.ok.hd hc) ?_))
      refine wpAny_bind (wpAny_mono (wpAny_Call_ofName (ld_glob I hg c.mgx ?_ hdb)) (fun v s3 h3 => wpAny_bind (wpAny_standAt (wpAny_pure h3))) fun _ _ z => z)
      unfold callWith
      have hA := ha.h cpos pins s σ H _ I h
      rw [star_cons h1] at hA ⊢
      refine wpAny_bind (wpAny_holding (Calls.evalArgs_plain (thn hA fun us s1 ⟨vs, H1, I1, rv, hz, hE⟩ => wpAny_bind (wpAny_standAt ?_))))
      have hplain : (backTo cpos ((false, eval e X.env) :: starEach es X.env)).any (·.1) = false := by
        show (false || (backTo cpos (starEach es X.env)).any (·.1)) = false
        rw [star_any h2]
        rfl
      simp only [hplain]
      have hC1 := I1.kIn _ _ ho
      obtain ⟨oI, hfo, hfc⟩ : ∃ oI : Obj, s1.heap.get? f = some oI ∧ oI.cls = .type "function" := by
        have hf2 : (X.K.lookup f).map (fun o => o.cls) = some (.type "function") := hf
        obtain ⟨oI, q1, q2⟩ := Option.map_eq_some_iff.mp hf2
        exact ⟨oI, I1.kIn _ _ q1, q2⟩
      have hns : s1.heap.Ns ns (s1.heap.nsMap ns) := .of_isNs (PySem.W.isNs_of_in I1.kIn hok)
      have hin := ns_val I1.kIn hns hni
      have hT1 := PySem.W.tail_of_in I1.kIn ht
      have hl1 : us.length ≤ sizeLine := by rw [← rv.length]; exact hz
      obtain ⟨hp, g, d, tk, os⟩ := s1
      refine wpAny_bind (wpAny_keeperOf_exc hC1 ?_)
      refine wpAny_bind (exd_call PySem.F.excBase_ValueError hT1 hC1 hns hin hfo hfc hl1 fun h3 ea hle hm => ?_)
      obtain ⟨t0, he3, _, _⟩ := hm.there
      have I2 : Inv X pins σ (upd H1 ea (.ext (ExcO C' ea none))) ⟨h3, g, d, tk, os⟩ := I1.laid (a := ea) (o := .ext (ExcO C' ea none)) (t' := tk) hm.keeps hle (ExcO.ok ⟨t0, he3⟩)
      have hsp := hE ea (I1.hok.fresh hle)
      have r2 : Vals (V.ref ea :: vs) (Value.ref ea :: us) := .cons rfl rv
      have hl : (Value.ref ea :: us ++ []).length = ps.length := by
        rw [List.append_nil, ← r2.length]
        exact F.len _ _ _ _ hsp
      have hbb := hb ⟨h3, g, d, tk, os⟩ (Value.ref ea :: us) I2.kIn hl
      rw [List.append_nil] at hbb
      refine wpAny_call (codeAny_mono (F.run _ X.stack _ _ ⟨Value.ref ea :: us, []⟩ (Value.ref ea :: us) _ _ E0 (hr.make C' us []) (I2.env0.make C' us []) hbb r2 hsp) fun r s' hq' => ?_)
      cases r with
      | error e' => exact False.elim hq'
      | ok fl =>
        cases fl with
        | ret u =>
          obtain ⟨v, H', I3, rv', ev, dc, q3, hE3⟩ := I2.after hq'
          subst ev
          refine ⟨rv', wpAny_bind (wpAny_holding (wpAny_point (wpAny_pure ?_)))⟩
          obtain ⟨⟨t1, he1⟩, _⟩ := I3.hok ea _ q3
          exact ⟨ea, _, t1, rfl, I3.kIn _ _ ho, he1, rfl, rfl, hT pins σ _ H1 s' _ ea _ (.ref t1) _ [.none, .bool false, .none] dc (I3.forget q3) I1 hm.new he1 rfl rfl rfl (if_pos rfl) hE3⟩
        | next => exact False.elim hq'
        | brk => exact False.elim hq'
        | cont => exact False.elim hq'
    · cases q
  · cases q⟩
end
end L2

set_option Elab.async false
set_option linter.all false
set_option maxRecDepth 100000
set_option maxHeartbeats 4000000
namespace L2
open PySem PySem.Spec PyProof.Rows
/-- what storing a field of its own asks of an own error class -/
structure ExF (K : PySem.W.Frag) (C : Addr) (f : Str) : Prop where
  cd : ∃ cd, PySem.W.clsIn K C = some cd ∧ excOver cd.mro = true ∧ cd.hasDict = true
  hm : PySem.W.mroIn K C (.type "object") = some true
  hs : PySem.W.findIn K (.ref C) "__setattr__" = some (some (.builtin "object.__setattr__"))
  ha : PySem.W.findIn K (.ref C) f = some none
section
variable {X : Cx} {o value : Expr} {f : Str} {pos pos' : Pos} {ta tv : TE}
def sXfld (K : PySem.W.Frag) (ta tv : TE) (f : Str) : TS := fun D σ H => tv σ H fun y H1 => ta σ H1 fun x H2 => ∃ a C, x = .ref a ∧ H2 a = some (.ext (ExcO C a none)) ∧ ExF K C f ∧ ∀ dx, H2 dx = none → dx ≠ a → D.nx σ (upd (upd H2 dx (.xd [(f, y)])) a (.ext (ExcO C a (some dx))))
/-- self.f = value, of an exception that is being made -/
theorem bs_xfld (ha : BE X o ta) (hv : BE X value tv) (hs : swapsWith value (some (.Attribute o f pos')) pos.line X.env = pure false := by rfl) : BS X (.Assign [.Attribute o f pos'] value pos) (sXfld X.K ta tv f) := ⟨by
  intro pins s σ H D I h
  refine plainObj_wpAny_Assign_Attribute (thn (hv.h pins s σ H _ I h) fun u s1 ⟨y, H1, I1, ry, q⟩ => thn (ha.h pins s1 σ H1 _ I1 q) fun ov s2 ⟨x, H2, I2, rx, a, C, ex, ea, c, q2⟩ => ?_) hs
  subst ex
  obtain rfl : ov = Value.ref a := rx
  obtain ⟨⟨t, e0⟩, _⟩ := I2.hok a _ ea
  obtain ⟨cd, c1, c2, c3⟩ := c.cd
  refine exc_set (ox := { cls := .ref C, dict := none, data := .fields #[.ref t, .none, .none, .none, .bool false, .none] }) I2.kIn ⟨e0, rfl, rfl, trivial⟩ rfl rfl c1 c2 c3 c.hm c.hs c.ha fun h1 dx nd ne g1 g2 g3 => ?_
  have ndx : H2 dx = none := I2.hok.none_of nd
  have hok : HOk X.prog X.w (upd (upd H2 dx (.xd [(f, y)])) a (.ext (ExcO C a (some dx)))) h1 := fun b w' q => by
    by_cases z : b = a
    · subst z
      rw [upd_same] at q
      cases q
      exact ExcO.ok ⟨t, g1⟩
    · rw [upd_ne z] at q
      by_cases z2 : b = dx
      · subst z2
        rw [upd_same] at q
        cases q
        refine ⟨_, g2, fun y' => ?_⟩
        by_cases zy : y' = f
        · subst zy
          rw [if_pos rfl, show List.lookup y' [(y', y)] = some y from by simp [List.lookup]]
          exact ry
        · rw [if_neg zy, show List.lookup y' [(f, y)] = none from by
            show (match y' == f with | true => some y | false => none) = none
            rw [show (y' == f) = false from Bool.eq_false_iff.mpr fun zz => zy (eq_of_beq zz)]]
          trivial
      · rw [upd_ne z2] at q
        refine (I2.hok b w' q).stay (fun c' u' hc r => g3 c' u' r fun zz => ?_) (fun c' r => ?_) fun c' xs r => ?_
        · rcases hc with hc | hc
          · exact z (hc.symm.trans zz)
          · rw [zz, ea] at hc; cases hc
        · rw [upd_ne (fun zz => by rw [zz, ea] at r; cases r), upd_ne (fun zz => by rw [zz, ndx] at r; cases r)]; exact r
        · rw [upd_ne (fun zz => by rw [zz, ea] at r; cases r), upd_ne (fun zz => by rw [zz, ndx] at r; cases r)]; exact r
  have un : Un X.fs [] H2 (upd (upd H2 dx (.xd [(f, y)])) a (.ext (ExcO C a (some dx)))) s2.heap h1 := by
    have na : ∀ b, H2 b = none → b ≠ a := fun b n zz => by rw [zz, ea] at n; cases n
    have nx : ∀ b w', H2 b = some w' → b ≠ dx := fun b w' n zz => by rw [zz, ndx] at n; cases n
    refine ⟨fun b o' q n _ _ => g3 b o' q (na b n), fun b o' q n _ _ => ⟨o'.slots, g3 b o' q (na b n)⟩, fun b o' q n _ => ?_, fun b o' q _ => ?_, fun b xs q => ?_, fun b o' u' q => ?_, fun b ps q => ⟨#[], ?_⟩⟩
    · rw [upd_ne (na b n), upd_ne (fun zz => by rw [zz, nd] at q; cases q)]; exact n
    · by_cases z : b = a
      · exact ⟨_, by rw [z]; exact g1⟩
      · exact ⟨o', g3 b o' q z⟩
    · rw [upd_ne (fun zz => by rw [zz, ea] at q; cases q), upd_ne (nx b _ q)]; exact q
    · rw [upd_ne (fun zz => by rw [zz, ea] at q; cases q), upd_ne (nx b _ q)]; exact q
    · rw [upd_ne (fun zz => by rw [zz, ea] at q; cases q), upd_ne (nx b _ q), q]; simp
  exact ⟨σ, _, I2.un (h' := h1) (t' := s2.toks + 2) un hok, q2 dx ndx ne⟩⟩
end
/-- what reading a field of its own asks of an own error class -/
structure ExG (K : PySem.W.Frag) (C : Addr) (f : Str) : Prop where
  hg1 : PySem.W.findIn K (.ref C) "__getattribute__" = some (some (.builtin "BaseException.__getattribute__"))
  hg2 : PySem.W.findIn K (.ref C) "__getattr__" = some none
  hb : PySem.W.mroIn K C (.type "BaseException") = some true
  hd : PySem.W.hasDictIn K C = true
  ha : PySem.W.findIn K (.ref C) f = some none
section
variable {X : Cx} {e : Expr} {f : Str} {pos : Pos} {ta : TE} {ea C : Addr} {oe : Obj} {dc : Option Addr}
def tXfld (K : PySem.W.Frag) (C ea : Addr) (dc : Option Addr) (ta : TE) (f : Str) : TE := fun σ H Q => ta σ H fun x H1 => x = .ref ea ∧ ExG K C f ∧ ∃ dx fs v, dc = some dx ∧ H1 dx = some (.xd fs) ∧ fs.lookup f = some v ∧ Q v H1
/-- e.f of an exception that is held -/
theorem be_xfld (he : BE X e ta) (hp : (ea, oe) ∈ X.pn) (hc : oe.cls = .ref C) (hdc : oe.dict = dc) (hn : PySem.W.notCls oe = true) (hb : attributeBase e f X.env (eval e X.env) = eval e X.env := by rfl) : BE X (.Attribute e f pos) (tXfld X.K C ea dc ta f) := ⟨by
  intro pins s σ H Q I h
  refine attr_of hb (thn (he.h pins s σ H _ I h) fun u s1 ⟨x, H1, I1, rx, ex, g, dx, fs, v, e1, e2, l, q⟩ => ?_)
  subst ex
  obtain rfl : u = Value.ref ea := rx
  subst e1
  obtain ⟨mA, n1, r⟩ := (show ObjOk X.prog X.w H1 s1.heap dx (.xd fs) from I1.hok dx _ e2)
  obtain ⟨u, hu, ru⟩ := RelO.some_of (v := v) (o := mA f) (by rw [← l]; exact r f)
  obtain ⟨od, ho, hl⟩ := lookIn_ns n1
  have at_ := (I1.pin (ea, oe) (List.mem_append_left _ hp)).1
  refine exc_get (ox := oe) (od := od) I1.kIn ⟨at_, hc, hn, by rw [hdc]; exact ho⟩ g.hg1 g.hg2 g.hb (PySem.W.findObj_own g.hd g.ha rfl (by rw [hl, hu])) (handed_of ru) ⟨v, H1, I1.tok _, ru, q⟩⟩
/-- the same, the text's facts being named -/
theorem be_xfldK {K : PySem.W.Frag} (hK : X.K = K) (he : BE X e ta) (hp : (ea, oe) ∈ X.pn) (hc : oe.cls = .ref C) (hdc : oe.dict = dc) (hn : PySem.W.notCls oe = true) (hb : attributeBase e f X.env (eval e X.env) = eval e X.env := by rfl) : BE X (.Attribute e f pos) (tXfld K C ea dc ta f) := hK ▸ be_xfld he hp hc hdc hn hb
end
end L2

set_option Elab.async false
set_option linter.all false
set_option maxRecDepth 100000
set_option maxHeartbeats 4000000
namespace L2
open PySem PySem.Spec PyProof.Rows
/-- the class that is called upward: its __init__ is ValueError's -/
structure ExU (K : PySem.W.Frag) (mg : Str → Option Value) (x : Str) (B : Addr) : Prop where
  mgx : mg x = some (.ref B)
  rd : PySem.W.readsIn K B (.type "type") = true
  fc : PySem.W.findCls K (.ref B) (.type "type") "__init__" = some (.val (.builtin "ValueError.__init__"))
  ga : PySem.W.specialIn K (.ref B) "__getattribute__" = some (some (.builtin "type.__getattribute__"))
theorem exc_cls {K : PySem.W.Frag} {h : Heap} {C f : Addr} (X : K.In h) (q : excInI K C veMro "ValueError.__new__" f = true) :
    ∃ nm qn N bs bm hd sn sub ab col dd k0 k1 k2 k3 k5, h.get? C = some (excClassObj nm qn C N bs bm hd sn sub ab col dd k0 k1 k2 k3 k5 "ValueError.__new__") ∧ OwnTail h veMro bm := by
  unfold excInI at q
  split at q
  · rename_i dd cdt sl ho
    split at q
    · rename_i C' bm k0 k1 k2 k3 n k5 hm hs
      simp only [Bool.and_eq_true, beq_iff_eq, Bool.not_eq_true'] at q
      obtain ⟨⟨⟨⟨⟨⟨rfl, rfl⟩, hdel⟩, ht⟩, hok⟩, hni⟩, hfn⟩ := q
      obtain ⟨nm, bs, mro, ns, qn, hd, sn, sub, ab, col, del⟩ := cdt
      dsimp only at hm hdel hok hni
      subst hm hdel
      have hsl : sl = #[k0, k1, k2, k3, some (.builtin "ValueError.__new__"), k5] := by
        obtain ⟨l⟩ := sl
        simp only at hs
        rw [hs]
      subst hsl
      exact ⟨nm, qn, ns, bs, bm, hd, sn, sub, ab, col, dd, k0, k1, k2, k3, k5, X _ _ ho, PySem.W.tail_of_in X ht⟩
    · cases q
  · cases q
section
variable {X : Cx} {x : Str} {B : Addr} {e : Expr} {es : List Expr} {t : TA} {np apos cpos : Pos}
def tUp (K : PySem.W.Frag) (t : TA) : TE := fun σ H Q => t σ H fun vs H1 => ∃ ea C dc v f, vs = [.ref ea, v] ∧ H1 ea = some (.ext (ExcO C ea dc)) ∧ excInI K C veMro "ValueError.__new__" f = true ∧ Q .non H1
/-- B.__init__(self, v), B an own error class without an __init__ of its own -/
theorem be_up {pl : Sem Bool} (c : ExU X.K X.mg x B) (ha : BA X (e :: es) t) (hg : Gl X x := by rfl) (hdb : (x == ("__debug__" : Str)) = false := by decide) (h1 : isStar e = false := by rfl) (h2 : noStar es = true := by rfl)
    (ht : eval (.Call (.Attribute (.Name x np) "__init__" apos) (e :: es) [] cpos) X.env = (do
      let ov ← eval (.Name x np) X.env
      standAt apos.atName
      let (f, first) ← holding [ov] (getMethod ov "__init__" pl)
      callWith cpos f first (backTo cpos (starEach (e :: es) X.env)) (backToKw cpos (keywordEach [] X.env))) := by rfl) :
    BE X (.Call (.Attribute (.Name x np) "__init__" apos) (e :: es) [] cpos) (tUp X.K t) := ⟨by
  intro pins s σ H Q I h
  refine PySem.W.methodCall_KW (pl := pl) (ld_glob I hg c.mgx ?_ hdb) ht
  refine PySem.W.method_cls I.kIn c.ga (PySem.W.cls_value I.kIn c.rd c.fc rfl ?_)
  refine PyProof.Rows.callWith_builtin1 (thn (ha.h cpos pins _ σ H _ (I.tok _) h) fun us s1 ⟨vs, H1, I1, rv, ea, C, dc, v, f, e1, e2, e3, q⟩ => ?_) (star_cons h1) (star_any h2)
  subst e1
  obtain ⟨w1, u, rfl, r1, r2⟩ := vals2 rv
  obtain rfl : w1 = Value.ref ea := r1
  obtain ⟨⟨t0, he⟩, _⟩ := I1.hok ea _ e2
  obtain ⟨nm, qn, N, bs, bm, hd, sn, sub, ab, col, dd, k0, k1, k2, k3, k5, hC, hT⟩ := exc_cls I1.kIn e3
  have F := PySem.F.excBase_ValueError
  obtain ⟨hp, g, d, tk, os⟩ := s1
  refine wpAny_call (codeAny_call_builtin F.init.plain F.initEntry (wpAny_check_init_subT F hT hC he rfl ?_))
  wp_walk
  show EP X pins σ Q .none ⟨(hp.push { cls := Value.type "tuple", data := Data.seq #[u] }).update ea (Obj.mapFields fun x => x.setIfInBounds 0 (Value.ref hp.objs.size)), g, d, tk, os⟩
  have g1 : (hp.push { cls := Value.type "tuple", data := Data.seq #[u] }).get? ea = some { cls := Value.ref C, dict := dc, data := Data.fields #[Value.ref t0, Value.none, Value.none, Value.none, Value.bool false, Value.none] } := Heap.get?_push_of_some _ he
  have g2 := Heap.get?_update_self (Obj.mapFields fun x => x.setIfInBounds 0 (Value.ref hp.objs.size)) g1 rfl
  have ux : upd H1 ea (.ext (ExcO C ea dc)) = H1 := funext fun b => by
    by_cases z : b = ea
    · subst z; rw [upd_same, e2]
    · rw [upd_ne z]
  have W := I1.write (x := ea) (e := ea) (o := .ext (ExcO C ea dc)) (t' := tk) (h' := (hp.push { cls := Value.type "tuple", data := Data.seq #[u] }).update ea (Obj.mapFields fun x => x.setIfInBounds 0 (Value.ref hp.objs.size))) (by rw [e2]; trivial) (.inl rfl)
    (fun b w' n q' => by rw [Heap.get?_update_other _ _ (Ne.symm n)]; exact Heap.get?_push_of_some _ q') ⟨_, g2⟩ (ExcO.ok ⟨hp.objs.size, g2⟩)
  rw [ux] at W
  exact ⟨.non, H1, W, rfl, q⟩⟩
end
end L2

set_option Elab.async false
set_option linter.all false
set_option maxRecDepth 100000
set_option maxHeartbeats 4000000
namespace L2
open PySem PySem.Spec PyProof.Rows
/-! ### the readings of exceptions with fields, step by step; what is asked of their classes, as rows that the text decides -/
section
variable {K : PySem.W.Frag} {σ : St} {H : Hp} {D : Ends} {E : XK} {C ea : Addr} {dc : Option Addr} {Q : VK} {t : TA} {ta tv : TE} {f : Str} {sp : Sp}
instance x1 : RdS (tUp K t σ H Q) (t σ H fun vs H1 => ∃ ea C dc v f, vs = [.ref ea, v] ∧ H1 ea = some (.ext (ExcO C ea dc)) ∧ excInI K C veMro "ValueError.__new__" f = true ∧ Q .non H1) := ⟨id⟩
instance x2 : RdS (sXfld K ta tv f D σ H) (tv σ H fun y H1 => ta σ H1 fun x H2 => ∃ a C, x = .ref a ∧ H2 a = some (.ext (ExcO C a none)) ∧ ExF K C f ∧ ∀ dx, H2 dx = none → dx ≠ a → D.nx σ (upd (upd H2 dx (.xd [(f, y)])) a (.ext (ExcO C a (some dx))))) := ⟨id⟩
instance x3 : RdS (tXfld K C ea dc ta f σ H Q) (ta σ H fun x H1 => x = .ref ea ∧ ExG K C f ∧ ∃ dx fs v, dc = some dx ∧ H1 dx = some (.xd fs) ∧ fs.lookup f = some v ∧ Q v H1) := ⟨id⟩
instance x4 : RdS (tRaiseI E C sp t D σ H) (t σ H fun vs H1 => vs.length ≤ sizeLine ∧ ∀ ea, H1 ea = none → sp (.ref ea :: vs) (upd H1 ea (.ext (ExcO C ea none))) (fun v H2 => v = .non ∧ ∃ dc, H2 ea = some (.ext (ExcO C ea dc)) ∧ E (.ref C) dc (fun b => if b = ea then none else H2 b)) E0) := ⟨id⟩
end
def excFd (K : PySem.W.Frag) (C : Addr) : Bool := (PySem.W.clsIn K C).any fun cd => excOver cd.mro && cd.hasDict
theorem exF_of {K : PySem.W.Frag} {C : Addr} {f : Str} (h : excFd K C = true) (hm : PySem.W.mroIn K C (.type "object") = some true) (hs : PySem.W.findIn K (.ref C) "__setattr__" = some (some (.builtin "object.__setattr__"))) (ha : PySem.W.findIn K (.ref C) f = some none) : ExF K C f := by
  refine ⟨?_, hm, hs, ha⟩
  unfold excFd at h
  cases e : PySem.W.clsIn K C with
  | none => rw [e] at h; cases h
  | some cd =>
    rw [e] at h
    have h' : (excOver cd.mro && cd.hasDict) = true := h
    rw [Bool.and_eq_true] at h'
    exact ⟨cd, rfl, h'.1, h'.2⟩
/-- what the __init__ of an error class with one field promises -/
def spInit (C : Addr) (f : Str) : Sp := fun vs H Q _ => ∃ ea v, vs = [.ref ea, v] ∧ H ea = some (.ext (ExcO C ea none)) ∧ ∀ dx, H dx = none → dx ≠ ea → Q .non (upd (upd H dx (.xd [(f, v)])) ea (.ext (ExcO C ea (some dx))))
/-- raise C(v): what is thrown has a dict of its own, with the field -/
theorem rd_raiseI {H : Hp} {E : XK} {C : Addr} {f : Str} {v : V} (h : ∀ dx H', Same H H' → H dx = none → H' dx = some (.xd [(f, v)]) → E (.ref C) (some dx) H') :
    [v].length ≤ sizeLine ∧ ∀ ea, H ea = none → spInit C f (.ref ea :: [v]) (upd H ea (.ext (ExcO C ea none))) (fun v H2 => v = .non ∧ ∃ dc, H2 ea = some (.ext (ExcO C ea dc)) ∧ E (.ref C) dc (fun b => if b = ea then none else H2 b)) E0 := by
  refine ⟨by show 1 ≤ sizeLine; rw [sizeLine_eq]; decide, fun ea n => ⟨ea, v, rfl, upd_same, fun dx n1 n2 => ⟨rfl, some dx, upd_same, ?_⟩⟩⟩
  have nd : H dx = none := by rw [upd_ne n2] at n1; exact n1
  refine h dx _ (fun b o e => ?_) nd ?_
  · have b1 : b ≠ ea := fun z => by rw [z, n] at e; cases e
    have b2 : b ≠ dx := fun z => by rw [z, nd] at e; cases e
    show (if b = ea then none else upd (upd (upd H ea (.ext (ExcO C ea none))) dx (.xd [(f, v)])) ea (.ext (ExcO C ea (some dx))) b) = some o
    rw [if_neg b1, upd_ne b1, upd_ne b2, upd_ne b1]
    exact e
  · show (if dx = ea then none else upd (upd (upd H ea (.ext (ExcO C ea none))) dx (.xd [(f, v)])) ea (.ext (ExcO C ea (some dx))) dx) = _
    rw [if_neg n2, upd_ne n2, upd_same]
end L2

set_option Elab.async false
set_option linter.all false
set_option maxRecDepth 100000
set_option maxHeartbeats 4000000
namespace L2
open PySem PySem.Spec PySem.Calls PySem.W PyProof.Rows Builtin
/-! ### within an except suite: the end of a walk of range -/
theorem entry_unch : entryFor table "proto.unchain" = some Builtin.«proto.unchain» := entryFor_of_fast (by kernel_rfl)
section
variable {P : Program} {w : World} {A : Around} {E : Value → Shared → Prop} {s : Shared} {ea : Addr} {oe : Obj}
/-- a new exception is thrown while one without a context is handled -/
theorem raiseNewH {α : Type} {Q : α → Shared → Prop} {en : Addr} {on : Obj} {vn : Array Value} (hh : A.handled = some (.ref ea)) (he : s.heap.get? ea = some oe) (hc : CtxN oe) (hn : s.heap.get? en = some on) (hv : on.data = .fields vn) (hz : 2 < vn.size) (hne : ea ≠ en)
    (h : E (.ref en) { s with heap := s.heap.update en (Obj.mapFields (·.setIfInBounds 2 (.ref ea))) }) : wpAny (model P w) A (raiseNew (.ref en) : Sem α) Q E s := by
  obtain ⟨vs, d1, d2⟩ := hc
  unfold raiseNew
  refine wpAny_bind (wpAny_handled ?_)
  rw [hh]
  dsimp only
  rw [if_pos (show (Value.ref ea != Value.ref en) = true by simp [hne])]
  refine wpAny_bind (wpAny_holding (wpAny_runValue (codeAny_builtin entry_unch ?_)))
  unfold Builtin.«proto.unchain»
  dsimp only
  refine wpAny_bind (wpAny_field he d1 d2 ?_)
  rw [if_pos (show (Value.none == Value.none) = true by rfl)]
  refine wpAny_pure ?_
  refine wpAny_bind (show wpAny _ _ (setField (.ref en) 2 (.ref ea)) _ _ s from wpAny_setField hn hv hz (wpAny_throw h))
/-- range is over -/
theorem range_overH {it : Addr} {x left step : Int} {Q : Option Value → Shared → Prop} (hh : A.handled = some (.ref ea)) (he : s.heap.get? ea = some oe) (hc : CtxN oe) (hr : IsRangeIter s.heap it x left step) (hl : left ≤ 0)
    (hQ : ∀ h', Heap.ExtBut it s.heap h' → Q none { s with heap := h' }) : wpAny (model P w) A (pyNext (.ref it)) Q E s := by
  have ty : s.TypeIs (.ref it) "range_iterator" := ⟨_, hr, rfl⟩
  unfold pyNext
  refine wpAny_bind (wpAny_attempt (wpAny_callSpecial?_slot (name := Str.ofString "__next__") ty F.slot_range_iterator_next (wpAny_call_entry F.slot_range_iterator_next ty F.entry_range_iterator_next ?_ (F.args_range_iterator_next_1 _))))
  show wpAny _ _ (field (.ref it) 0 >>= fun _ => _) _ _ s
  refine wpAny_bind (wpAny_field hr rfl (x := rawInt x) rfl (show wpAny _ _ (field (.ref it) 1 >>= fun _ => _) _ _ s from ?_))
  refine wpAny_bind (wpAny_field hr rfl (x := rawInt left) rfl (show wpAny _ _ (field (.ref it) 2 >>= fun _ => _) _ _ s from ?_))
  refine wpAny_bind (wpAny_field hr rfl (x := rawInt step) rfl (show wpAny _ _ (if left ≤ 0 then _ else _) _ _ s from ?_))
  rw [if_pos hl]
  refine wpAny_bind (wpAny_rule (wpAny_bind (show wpAny _ _ (newExc (.type "StopIteration") [] >>= fun _ => _) _ _ _ from wpAny_bind ?_)))
  unfold newExc newTuple
  refine wpAny_bind (wpAny_newObj_type (wpAny_bind (m := firstArgMember _ _) (wpAny_of_eq (a := Value.none) (by first | rfl | (simp only [firstArgMember]; rfl)) (wpAny_newObj_type ?_ (by size_fits)))) (by size_fits))
  have k1 := Heap.get?_push_of_some { cls := .type "tuple", dict := none, data := .seq ([] : List Value).toArray } he
  refine raiseNewH (en := (s.heap.push { cls := .type "tuple", dict := none, data := .seq ([] : List Value).toArray }).objs.size) hh (Heap.get?_push_of_some _ k1) hc (Heap.get?_push_size _ rfl) rfl (by simp; omega) (Nat.ne_of_lt (Heap.lt_size k1)) ?_
  refine wpAny_bind (wpAny_isInstance (T := "StopIteration") (b := true) ⟨_, Heap.get?_update_self _ (Heap.get?_push_size _ rfl) rfl, rfl⟩ isSubtype_stop ?_)
  refine wpAny_pure (hQ _ fun b o _ e => ?_)
  have k2 := Heap.get?_push_of_some { cls := .type "tuple", dict := none, data := .seq ([] : List Value).toArray } e
  rw [Heap.get?_update_other _ _ (Nat.ne_of_gt (Heap.lt_size k2))]
  exact Heap.get?_push_of_some _ k2
end
/-! ### a comprehension over range within an except suite -/
section
variable {P : Program} {w : World} {K : PySem.W.Frag} {tg : Expr}
structure TurnH (P : Program) (w : World) (K : PySem.W.Frag) (tg : Expr) (J : It) (fp : List Addr) (it : Addr) (tn : Nat → Heap → Prop) : Prop where
  t : Turn P w K tg J fp it tn
  item : ∀ (X : Cx), X.prog = P → X.w = w → X.K = K → ∀ (i : Nat) (pins : List (Addr × Obj)) (s : Shared) (σ : St) (H : Hp) (E : Value → Shared → Prop), Inv X pins σ H s → (∀ b ∈ fp, FpOk X pins H b) → tn i s.heap → J.go i H →
    wpAny (model P w) X.A (pyNext (.ref it)) (fun r s1 => ∃ u, r = some u ∧
      wpAny (model P w) X.A (letOwnedTupleGo tg (.ref it) u) (fun _ s2 => ∃ x H', Inv X pins σ H' s2 ∧ RelV x u ∧ J.yld i H x H' ∧ tn (i + 1) s2.heap ∧ ∀ b ∈ fp, H' b = none) E s1) E s
  done : ∀ (X : Cx), X.prog = P → X.w = w → X.K = K → ∀ (ea : Addr) (oe : Obj), X.A.handled = some (.ref ea) → CtxN oe → ∀ (i : Nat) (pins : List (Addr × Obj)) (s : Shared) (σ : St) (H : Hp) (E : Value → Shared → Prop), s.heap.get? ea = some oe → Inv X pins σ H s → (∀ b ∈ fp, FpOk X pins H b) → tn i s.heap → J.stop i H →
    wpAny (model P w) X.A (pyNext (.ref it)) (fun r s1 => r = none ∧ Inv X pins σ H s1) E s
theorem turnH_range (it : Addr) (lo : Int) (n : Nat) : TurnH P w K tg (Itr lo n) [it] it (fun i h => IsRangeIter h it (lo + i * 1) (n - i) 1) where
  t := turn_range it lo n
  item := by
    intro X hP hw hK i pins s σ H E I hf st hg
    subst hP hw hK
    obtain ⟨f0, f1, f2, f3, f4, f5⟩ := hf it (by simp)
    refine wpAny_pyNext_range_item st (by have : i < n := hg; omega) fun h' st' kk => ?_
    have I1 : Inv X pins σ H { s with heap := h', toks := s.toks + 1 } := I.turned (fun b o hb e => (kk.2 b hb).trans e) f0 f1 f3 f4 f5
    refine ⟨_, rfl, go_of (s := { s with heap := h', toks := s.toks + 1 }) (n := "range_iterator") st' rfl rfl (by decide) ⟨.int (lo + i), H, I1, ⟨s.toks, ?_⟩, ⟨rfl, rfl⟩, ?_, fun b hb => (hf b hb).1⟩⟩
    · rw [Int.mul_one]
    · have e1 : lo + (i : Int) * 1 + 1 = lo + ((i + 1 : Nat) : Int) * 1 := by omega
      have e2 : (n : Int) - (i : Int) - 1 = (n : Int) - ((i + 1 : Nat) : Int) := by omega
      rw [e1, e2] at st'
      exact st'
  done := by
    intro X hP hw hK ea oe hh hc i pins s σ H E he I hf st hg
    subst hP hw hK
    obtain ⟨f0, f1, f2, f3, f4, f5⟩ := hf it (by simp)
    exact range_overH hh he hc st (by have : n ≤ i := hg; omega) fun h' eb => ⟨rfl, I.turned (t' := s.toks) (fun b o hb e => eb b o hb e) f0 f1 f3 f4 f5⟩
end

end L2

set_option Elab.async false
set_option linter.all false
set_option maxRecDepth 100000
set_option maxHeartbeats 4000000
namespace L2
open PySem PySem.Spec PyProof.Rows
section
variable {X : Cx} {tg : Expr}
def PIEH (X : Cx) (pins : List (Addr × Obj)) (σ : St) (tg : Expr) (R : It → Hp → Prop) (itv : Value) (s2 : Shared) : Prop :=
  ∃ (it : Addr) (fp : List Addr) (tn : Nat → Heap → Prop) (J : It) (H' : Hp), itv = .ref it ∧ Inv X pins σ H' s2 ∧ TurnH X.prog X.w X.K tg J fp it tn ∧ tn 0 s2.heap ∧ (∀ b ∈ fp, FpOk X pins H' b) ∧ R J H'
def PIH (X : Cx) (tg iter : Expr) (wi : TI) : Prop :=
  ∀ (pins : List (Addr × Obj)) (s : Shared) (σ : St) (H : Hp) (R : It → Hp → Prop), Inv X pins σ H s → wi σ H R →
    wpAny (model X.prog X.w) X.A (eval iter X.env) (fun v s1 => wpAny (model X.prog X.w) X.A (pyIter v) (PIEH X pins σ tg R) X.xe s1) X.xe s
theorem range_itH {pins : List (Addr × Obj)} {σ : St} {H : Hp} {s : Shared} {R : It → Hp → Prop} {E : Value → Shared → Prop} {lo hi : Int} {t u v : Tok} {tk : Nat} (I : Inv X pins σ H s) (h1 : -(2 ^ 62) ≤ lo) (h2 : lo < 2 ^ 62) (h3 : -(2 ^ 62) ≤ hi) (h4 : hi < 2 ^ 62)
    (q : R (Itr lo (hi - lo).toNat) H) : wpAny (model X.prog X.w) X.A (pyIter (.ref s.heap.objs.size)) (PIEH X pins σ tg R) E { s with heap := s.heap.push { cls := .type "range", data := .fields #[.int lo t, .int hi u, .int 1 v] }, toks := tk } := by
  refine wpAny_pyIter_range (IsRange.new ..) (small_one h1 h2 h3 h4) ?_
  have I1 : Inv X pins σ H { s with heap := s.heap.push { cls := .type "range", data := .fields #[.int lo t, .int hi u, .int 1 v] }, toks := tk } := I.kept fun b o e => Heap.get?_push_of_some _ e
  refine ⟨(s.heap.push { cls := .type "range", data := .fields #[.int lo t, .int hi u, .int 1 v] }).objs.size, [(s.heap.push { cls := .type "range", data := .fields #[.int lo t, .int hi u, .int 1 v] }).objs.size], _, _, H, rfl,
    I1.kept (t' := tk) fun b o e => Heap.get?_push_of_some _ e, turnH_range _ lo (hi - lo).toNat, ?_, fun b hb => ?_, q⟩
  · have e1 : lo + ((0 : Nat) : Int) * 1 = lo := by simp
    have e2 : (((hi - lo).toNat : Nat) : Int) - ((0 : Nat) : Int) = Builtin.Range.rangeSize lo hi 1 := by rw [rangeSize_one]; split <;> omega
    show IsRangeIter _ _ (lo + ((0 : Nat) : Int) * 1) ((((hi - lo).toNat : Nat) : Int) - ((0 : Nat) : Int)) 1
    rw [e1, e2]
    exact Heap.get?_push_size _ rfl
  · have e : b = (s.heap.push { cls := .type "range", data := .fields #[.int lo t, .int hi u, .int 1 v] }).objs.size := by simpa using hb
    subst e
    exact I1.fpOk (Nat.le_refl _) (I1.hok.fresh (Nat.le_refl _))
theorem piH_r1 {a : Expr} {ta : TA} {p pos : Pos} (hm : X.mg "range" = none) (ha : BA X [a] ta) (hg : Gl X "range" := by rfl) (h1 : isStar a = false := by rfl) : PIH X tg (.Call (.Name "range" p) [a] [] pos) (iRng1 ta) := by
  intro pins s σ H R I h
  refine Call_ (ld_blt I hg hm boot_range (PyProof.Rows.callWith_type1 (thn (ha.h pos pins s σ H _ I h) fun us s1 ⟨vs, H1, I1, r1, q1⟩ => ?_) (by rw [star_cons h1]) rfl))
  obtain ⟨j, e, q1, q2, q⟩ := q1
  subst e
  cases r1 with
  | cons r rr =>
    cases rr
    obtain ⟨t, rfl⟩ := r
    exact call_range_1 (range_itH I1 (by omega) (by omega) q1 q2 (by simpa using q))
end
section
variable {X : Cx} {scope : Scope} {x : Str} {fv : List Str} {ix : List Nat}
theorem pe_lcH {elt iter : Expr} {ifs : List Expr} {px pos : Pos} {wi : TI} {tt : TT} {te : TE} {osc : Scope} {ea : Addr} {oe : Obj} (hpn : (ea, oe) ∈ X.pn) (hh : X.A.handled = some (.ref ea)) (hcx : CtxN oe) (S₀ : LcScope scope x fv osc) (hix : ix.map (fun i => X.N[i]?) = fv.map some) (hi : PIH X (.Name x px) iter wi)
    (ht : ∀ (C : Addr) (s₀ : Shared) (H₀ : Hp) (ex : List Addr), PIfs (X.comp scope (x :: fv) C s₀ H₀ ex) ifs tt)
    (he : ∀ (C : Addr) (s₀ : Shared) (H₀ : Hp) (ex : List Addr), PE (X.comp scope (x :: fv) C s₀ H₀ ex) elt te)
    (hosc : X.env.scope = osc := by rfl) (hs : ∀ x, foldedSetIterable iter X.env x = pure x := by intro _; rfl) : PE X (.ListComp elt [⟨.Name x px, iter, ifs, 0⟩] scope pos) (tLC ix wi tt te) := by
  have S : LcScope scope x fv X.env.scope := hosc ▸ S₀
  intro pins s σ H Q I h
  rw [eval_ListComp]
  refine wpAny_comprehension_free (use := none) (cl := closOf scope X.env) rfl hs (closureFor_of (S.cells I.ok)) S.kind S.names ?_
  refine thn (hi pins s σ H _ I h) fun v s1 h1 => thn h1 fun itv s2 h2 => ?_
  obtain ⟨it, fp, tn, J, H2, e, I2, T, st2, f2, W, ⟨m0, w0⟩, turn⟩ := h2
  subst e
  have fl : ∀ b ∈ fp, b < s2.heap.objs.size := fun b hb => by obtain ⟨o, e, _⟩ := T.t.obj _ _ st2 b hb; exact Heap.lt_size e
  refine wpAny_newObj_type (wpAny_newFunctionEnv S.nocell (by intro y hy; simp at hy) (fun h₁ hns₁ hsb₁ => ?_) S.kind)
  dsimp only at hns₁ hsb₁ ⊢
  generalize hH2 : s2.heap.push { cls := .type "list", dict := none, data := .seq ([] : List Value).toArray } = hp2 at hns₁ hsb₁ ⊢
  have hCe : hp2.objs.size = s2.heap.objs.size + 1 := by rw [← hH2, Heap.size_push]
  generalize hCC : hp2.objs.size = C at hns₁ hsb₁ ⊢
  generalize hDD : s2.heap.objs.size = D at *
  have hDC : D ≠ C := by omega
  have hD : s2.heap.objs.size ≤ D := by omega
  have hC : s2.heap.objs.size ≤ C := by omega
  have nbC : ∀ b : Nat, b < s2.heap.objs.size → b ≠ C := fun b hb => by omega
  have nbD : ∀ b : Nat, b < s2.heap.objs.size → b ≠ D := fun b hb => by omega
  have old : ∀ b o, s2.heap.get? b = some o → h₁.get? b = some o := fun b o e => hsb₁.extBut b o (nbC b (Heap.lt_size e)) (Heap.get?_push_of_some _ (hH2 ▸ Heap.get?_push_of_some _ e))
  have hacc : h₁.get? D = some (lobj [] 0) := hsb₁.extBut _ _ hDC (Heap.get?_push_of_some _ (hH2 ▸ hDD ▸ Heap.get?_push_size _ rfl))
  have st3 : tn 0 h₁ := T.t.keep _ _ _ st2 fun b _ o e => old b o e
  have I3 : Inv (X.comp scope (x :: fv) C s2 H2 fp) [(D, lobj [] 0)] (none :: pick ix σ) H2 { s2 with heap := h₁, toks := s2.toks + ([] : List (Str × Value)).length } := comp_start S hix I2 hD hDC hC f2 (fun b hb => hDD.symm ▸ fl b hb) hns₁ old hacc
  have fpD : ∀ b ∈ fp, b ≠ D := fun b hb => nbD b (hDD.symm ▸ fl b hb)
  have hcl := S.cells I2.ok
  have stat : ∀ {H' : Hp} {its : List Value} {n : Nat}, (∀ b ∈ fp, H' b = none) → ∀ b ∈ fp, FpOk (X.comp scope (x :: fv) C s2 H2 fp) [(D, lobj its n)] H' b := fun {H' its n} hn b hb => by
    obtain ⟨_, g1, g2, g3, g4, g5⟩ := f2 b hb
    refine ⟨hn b hb, (nbC b (hDD.symm ▸ fl b hb)), fun z => ?_, .inl hb, fun y c h1 => g4 y c (clos_get hcl h1), fun p hp => ?_⟩
    · rcases List.mem_cons.mp (I2.stkSub b z) with z | z
      · exact g1 z
      · exact g2 z
    · have hp' : p = (D, lobj its n) := by simpa [Cx.comp] using hp
      rw [hp']
      exact (fpD b hb).symm
  have hea : ∀ {H' : Hp} {h' : Heap}, Un (frs X.stack) fp H2 H' s2.heap h' → h'.get? ea = some oe := fun {H' h'} U => by
    obtain ⟨p1, p2, p3, p4, _⟩ := I2.pin (ea, oe) (List.mem_append_left _ hpn)
    refine U.keep ea oe p1 p2 (fun z => ?_) fun z => ?_
    · rcases List.mem_cons.mp (I2.stkSub ea z) with z | z
      · exact p3 z
      · exact p4 z
    · exact (f2 ea z).2.2.2.2.2 (ea, oe) (List.mem_append_left _ hpn) rfl
  have loop : ∀ s3 : Shared, s3 = { s2 with heap := h₁, toks := s2.toks + ([] : List (Str × Value)).length } →
      codeAny (model X.prog X.w) X.A (.compLoop (.ListComp elt [⟨.Name x px, iter, ifs, 0⟩] scope pos) 0 (.ref it) (.ref D) (compEnvC scope (closOf scope X.env) C X.env))
        (compPost (model X.prog X.w) X.A X.xe none (EP X pins σ Q) (.ref D) C) s3 := by
    rintro s3 rfl
    refine codeAny_compLoop_own (fun n s' => ∃ i ys its k H' o', Inv (X.comp scope (x :: fv) C s2 H2 fp) [(D, lobj its k)] (o' :: pick ix σ) H' s' ∧ tn i s'.heap ∧ (∀ b ∈ fp, H' b = none) ∧ Vals ys its ∧ ys.length ≤ sizeLine ∧ W i n ys H') ?_ m0
      ⟨0, [], [], 0, H2, none, I3, st3, fun b hb => (f2 b hb).1, .nil, Nat.zero_le _, w0⟩
    rintro n s4 ⟨i, ys, its, k, H4, o4, I4, st4, fr4, rv4, hz4, w4⟩
    rcases turn i n ys H4 w4 with ⟨stop, q⟩ | ⟨go, hlt, step⟩
    · refine thn (T.done (X.comp scope (x :: fv) C s2 H2 fp) rfl rfl rfl ea oe hh hcx i _ s4 _ H4 _ (hea I4.base) I4 (stat fr4) st4 stop) fun r s5 ⟨hr, I5⟩ => ?_
      subst hr
      obtain ⟨m5, hn5, _⟩ := id I5.loc
      refine ⟨m5, hn5, fun h6 hs6 => ?_⟩
      obtain ⟨I6, nD⟩ := comp_end I2 hD hC f2 I5 hs6 rv4 hz4
      exact ⟨.ref D, _, I6, rfl, q D nD⟩
    · refine thn (T.item (X.comp scope (x :: fv) C s2 H2 fp) rfl rfl rfl i _ s4 _ H4 _ I4 (stat fr4) st4 go) fun r s5 ⟨u, hr, h5⟩ => ?_
      subst hr
      refine thn h5 fun _ s6 ⟨xv, H6, I6, r6, y6, st6, fr6⟩ => ?_
      have I6' := I6.pinned (stat fr6) (T.t.obj _ _ st6)
      refine wpAny_assign_Name (store_ok (i := 0) I6' S.nd rfl (.inl (lookup_relabel_local S.tgt)) r6 (fun s7 I7 => ?_) (.inr (lookup_relabel_local S.tgt)))
      refine thn (ht C s2 H2 fp _ s7 _ H6 _ I7 (step xv H6 y6)) fun b s8 ⟨H8, I8, q8⟩ => ?_
      have keepT : ∀ {H9 : Hp} {σ9 : St} {s9 : Shared} (I9 : Inv (X.comp scope (x :: fv) C s2 H2 fp) ([(D, lobj its k)] ++ pinsAt fp s6.heap) σ9 H9 s9), (∀ b ∈ fp, ∀ o, s6.heap.get? b = some o → s9.heap.get? b = some o ∧ H9 b = none) := fun {H9 σ9 s9} I9 b hb o e =>
        ⟨(I9.pin (b, o) (List.mem_append_right _ (List.mem_append_right _ (mem_pinsAt hb e)))).1, (I9.pin (b, o) (List.mem_append_right _ (List.mem_append_right _ (mem_pinsAt hb e)))).2.1⟩
      cases b with
      | false =>
        rw [if_neg Bool.false_ne_true] at q8 ⊢
        obtain ⟨m', hm, w8⟩ := q8
        refine ⟨m', hm, i + 1, ys, its, k, H8, some xv, I8.unpinned, T.t.keep _ _ _ st6 fun b hb o e => (keepT I8 b hb o e).1, fun b hb => ?_, rv4, hz4, w8⟩
        obtain ⟨o, e, _⟩ := T.t.obj _ _ st6 b hb
        exact (keepT I8 b hb o e).2
      | true =>
        rw [if_pos rfl] at q8 ⊢
        refine thn (he C s2 H2 fp _ s8 _ H8 _ I8 q8) fun y s9 ⟨yv, H9, I9, r9, q9⟩ => ?_
        obtain ⟨m', hm, w9⟩ := q9
        obtain ⟨eD, nD, neD, nfD, _⟩ := I9.pin (D, lobj its k) (by simp [Cx.comp])
        have hlen := rv4.length
        refine wpAny_list_append_plain (items := its.toArray) ⟨k, eD⟩ (fun h10 hp10 hs10 => ?_) (by rw [List.size_toArray]; omega)
        obtain ⟨k', e10⟩ := hp10
        have J9 : Inv (X.comp scope (x :: fv) C s2 H2 fp) (pinsAt fp s6.heap) (some xv :: pick ix σ) H9 s9 := I9.pins_of fun p hp => I9.pin p (List.mem_append_right _ (List.mem_append_right _ hp))
        have J10 : Inv (X.comp scope (x :: fv) C s2 H2 fp) (pinsAt fp s6.heap) (some xv :: pick ix σ) H9 { s9 with heap := h10 } :=
          J9.turned (t' := s9.toks) (it := D) (fun b o hb e => (hs10.2 b hb).trans e) nD neD (.inr hD) (fun y c h1 z => by
            obtain ⟨_, o, ho, _⟩ := I2.cell y c (clos_get hcl h1)
            exact nbD c (Heap.lt_size ho) z) (fun p hp z => by
            obtain ⟨hb, _⟩ := of_pinsAt (show p ∈ pinsAt fp s6.heap by simpa [Cx.comp] using hp)
            exact fpD p.1 hb z)
        have e10' : h10.get? D = some (lobj (its ++ [y]) k') := by
          rw [e10]
          simp [lobj]
        refine ⟨m', hm, i + 1, ys ++ [yv], its ++ [y], k', H9, some xv, J10.pins_of fun p hp => ?_, T.t.keep _ _ _ st6 fun b hb o e => (hs10.2 b (fpD b hb)).trans (keepT I9 b hb o e).1, fun b hb => ?_, rv4.append (.cons r9 .nil), ?_, w9⟩
        · have hp' : p = (D, lobj (its ++ [y]) k') := by simpa using hp
          subst hp'
          exact ⟨e10', nD, neD, nfD, fun v z => by have z' : Data.seq _ _ = Data.cell v := z; cases z'⟩
        · obtain ⟨o, e, _⟩ := T.t.obj _ _ st6 b hb
          exact (keepT I9 b hb o e).2
        · rw [List.length_append, List.length_singleton]; omega
  exact codeAny_compStart_list (loop _ rfl) (T.t.self _ 0 _ _ _ st3 (loop _ rfl))
theorem b_lcH {elt iter : Expr} {ifs : List Expr} {px pos : Pos} {wi : TI} {tt : TT} {te : TE} {osc : Scope} {ea : Addr} {oe : Obj} (hcx : CtxN oe) (S₀ : LcScope scope x fv osc) (hix : ix.map (fun i => X.N[i]?) = fv.map some) (hi : PIH (X.heldX ea oe) (.Name x px) iter wi)
    (ht : ∀ (C : Addr) (s₀ : Shared) (H₀ : Hp) (ex : List Addr), BF ((X.heldX ea oe).comp scope (x :: fv) C s₀ H₀ ex) ifs tt)
    (he : ∀ (C : Addr) (s₀ : Shared) (H₀ : Hp) (ex : List Addr), BE ((X.heldX ea oe).comp scope (x :: fv) C s₀ H₀ ex) elt te)
    (hosc : X.env.scope = osc := by rfl) (hs : ∀ x, foldedSetIterable iter X.env x = pure x := by intro _; rfl) : BE (X.heldX ea oe) (.ListComp elt [⟨.Name x px, iter, ifs, 0⟩] scope pos) (tLC ix wi tt te) :=
  ⟨pe_lcH (X := X.heldX ea oe) List.mem_cons_self rfl hcx S₀ hix hi (fun C s₀ H₀ ex => (ht C s₀ H₀ ex).h) (fun C s₀ H₀ ex => (he C s₀ H₀ ex).h) hosc hs⟩
end
end L2

set_option Elab.async false
set_option linter.all false
set_option maxRecDepth 100000
set_option maxHeartbeats 4000000
namespace L2
open PySem PySem.Spec PyProof.Rows
/-! ### a def called within an except suite, handed what is caught -/
structure RoomH (k : Nat) (A : Around) : Prop where
  dp : A.depth + 3 * k + 5 < recursionLimit
  un : A.units + 16 * k + 200 < cLine
theorem Room.held {k : Nat} {A : Around} {h : Option Value} (r : Room k A) : RoomH k (A.mark h) := ⟨r.dp, r.un⟩
theorem RoomH.deeper {k : Nat} {A : Around} (r : RoomH (k + 1) A) (env : Env) : RoomH k (A.deeper env) :=
  ⟨by have := r.dp; show A.depth + 1 + 3 * k + 5 < _; omega, by have := r.un; show A.units + 3 + 16 * k + 200 < _; omega⟩
def cxP (P : Program) (w : World) (K : PySem.W.Frag) (mg : Str → Option Value) (base : Heap) (N : List Str) (qual : Str) (scope : Scope) (f : Addr) (cd : Value) (A : Around) (outer : List Env) (s : Shared) (H : Hp) (ea : Addr) (oe : Obj) : Cx where
  prog := P
  w := w
  K := K
  mg := mg
  base := base
  A := A.deeper (envOfC qual scope s.heap.objs.size f cd)
  N := N
  s₀ := s
  H₀ := H
  env := envOfC qual scope s.heap.objs.size f cd
  outer := outer
  stack := envOfC qual scope s.heap.objs.size f cd :: outer
  ex := []
  calm := false
  fn := fun _ => true
  pn := [(ea, oe)]
  xe := fun _ _ => False
/-- what is known of the exception at the call -/
structure PinAt (ea : Addr) (oe : Obj) (outer : List Env) (s : Shared) (H : Hp) : Prop where
  at_ : s.heap.get? ea = some oe
  no : H ea = none
  fr : ea ∉ frs outer
  cl : ∀ v, oe.data ≠ .cell v
structure FnP (P : Program) (w : World) (K : PySem.W.Frag) (mg : Str → Option Value) (base : Heap) (ea : Addr) (oe : Obj) (k : Nat) (f : Addr) (fd : FuncData) (ps : List Str) (sp : Sp) : Prop where
  len : ∀ vs H Q E, sp vs H Q E → vs.length = ps.length
  run : ∀ (A : Around) (outer : List Env) (s : Shared) (H : Hp) (args : Args) (us : List Value) (vs : List V) (Q : VK), RoomH k A → Env0 P w K mg base A outer s H → PinAt ea oe outer s H → BindsTo s fd args (ps.zip us) → Vals vs us → sp vs H Q E0 →
    codeAny (model P w) A (.call (.ref f) args) (CR CX0 outer P w H s Q E0) s
section
variable {P : Program} {w : World} {K : PySem.W.Frag} {mg : Str → Option Value} {base : Heap} {ea : Addr} {oe : Obj}
theorem inv_startP {N ps : List Str} {qual : Str} {scope : Scope} {f : Addr} {cd : Value} {A : Around} {outer : List Env} {s s1 : Shared} {H : Hp} {us : List Value} {vs : List V}
    (S : FnScope N ps scope) (e0 : Env0 P w K mg base A outer s H) (pa : PinAt ea oe outer s H) (hl : vs.length = ps.length) (r : Vals vs us)
    (x : InCallC s s.heap.objs.size (bindL (envOfC qual scope s.heap.objs.size f cd).kindOf (ps.zip us) fun _ => none) (cellsFrom (s.heap.objs.size + 1) scope.names []) (bindC (envOfC qual scope s.heap.objs.size f cd).kindOf (ps.zip us) fun _ => none) s1) :
    Inv (cxP P w K mg base N qual scope f cd A outer s H ea oe) [] (start N vs) H s1 := by
  have I : Inv (cxOf CX0 P w K mg base N qual scope f cd { A with handled := none } outer s H E0) [] (start N vs) H s1 := inv_start S rfl ⟨e0.frames, e0.mod, e0.bs, e0.bsz, e0.funs, e0.frf, e0.hok, e0.bare⟩ hl r x
  refine ⟨⟨I.ok.mod, I.ok.kind, I.ok.glob, I.ok.blt, I.ok.above, I.ok.inj, I.ok.has, I.ok.cab, fun h => absurd (show false = true from h) (by decide), Around.frames_deeper e0.frames, I.ok.stk, I.ok.exf, I.ok.bs, I.ok.bsz, I.ok.noex, I.ok.exfs, I.ok.funs, I.ok.frf⟩, I.os, I.bare, I.base, I.loc, I.cell, I.free, I.freeC, fun p hp => ?_, I.hok, I.len⟩
  have e : p = (ea, oe) := by
    rcases List.mem_cons.mp (show p ∈ (ea, oe) :: [] from hp) with e | e
    · exact e
    · cases e
  subst e
  obtain ⟨h1, tk, rfl, hk⟩ := x.done
  exact ⟨hk ea oe pa.at_, pa.no, Nat.ne_of_lt (Heap.lt_size pa.at_), pa.fr, pa.cl⟩
theorem fn_ofP {k : Nat} {f : Addr} {name qual : Str} {params : Arguments} {body : List Stmt} {scope : Scope} {dV kV doc pm cdv ct oc : Value} {an od : Option Addr}
    {osl : Array (Option Value)} {N ps : List Str} {sp : Sp} (lk : K.lookup f = some ⟨oc, od, .func (PySem.W.fnOf name qual params body scope dV kV doc pm an cdv ct), osl⟩) (hcd : PySem.W.codeIn K cdv qual = true) (S : FnScope N ps scope)
    (len : ∀ vs H Q E, sp vs H Q E → vs.length = ps.length)
    (hbody : ∀ (A : Around) (outer : List Env) (s : Shared) (H : Hp) (vs : List V) (Q : VK), RoomH k (A.deeper (envOfC qual scope s.heap.objs.size f cdv)) → sp vs H Q E0 →
      ∃ t, PSs (cxP P w K mg base N qual scope f cdv A outer s H ea oe) body t ∧ t { nx := fun _ H' => Q .non H', rt := Q } (start N vs) H) :
    FnP P w K mg base ea oe (k + 1) f (PySem.W.fnOf name qual params body scope dV kV doc pm an cdv ct) ps sp := by
  refine ⟨len, fun A outer s H args us vs Q hr e0 pa hb r hsp => ?_⟩
  have hl := len _ _ _ _ hsp
  have KX : K.In s.heap := e0.mod.kin.keeps fun b o e => (e0.bs b o e).1
  have lim : s.heap.NoLimit := e0.mod.nolimit.keeps fun b o e => (e0.bs b o e).1
  have hkind : ∀ y ∈ ps.zip us, scope.names.lookup y.1 = some .local ∨ (scope.names.lookup y.1 = some .cell ∧ ((cellsFrom (s.heap.objs.size + 1) scope.names []).lookup y.1).isSome = true) := fun ⟨n, v⟩ hy => by
    rcases S.par n (List.of_mem_zip hy).1 with q | q
    · exact .inl q
    · exact .inr ⟨q, PySem.W.cellsFrom_some _ _ _ (.inl q)⟩
  refine codeAny_call_function (by have := hr.dp; omega) (KX _ _ lk) rfl S.co S.gen rfl (PySem.W.codeRec_of KX hcd) (hb _ _ _ _ ?_)
  refine wpAny_newFunctionEnv_cells S.kind hkind fun env he s1 x => ?_
  subst he
  refine ⟨lim.keeps x.toInCall.keep, codeAny_func ?_⟩
  obtain ⟨t, ht, hq⟩ := hbody A outer s H vs Q (hr.deeper _) hsp
  have I : Inv (cxP P w K mg base N qual scope f cdv A outer s H ea oe) [] (start N vs) H s1 := inv_startP S e0 pa hl r x
  refine wpAny_mono (ht [] s1 (start N vs) H _ I hq) (fun fl s' hs => ?_) fun e s' hs => hs.elim
  have fin : ∀ {σ' : St} {H' : Hp} {v : V} {u : Value}, Inv (cxP P w K mg base N qual scope f cdv A outer s H ea oe) [] σ' H' s' → RelV v u → Q v H' → CE outer P w H s Q u s' :=
    fun {σ' H' v u} J rv q => ⟨v, H', J.os, J.bare, J.base, J.hok, rv, q⟩
  cases fl with
  | ret u =>
    obtain ⟨v, σ', H', J, rv, q⟩ := hs
    exact fin J rv q
  | next =>
    obtain ⟨σ', H', J, q⟩ := hs
    exact fin (v := V.non) (u := Value.none) J rfl q
  | brk =>
    obtain ⟨_, _, _, q⟩ := hs
    exact False.elim q
  | cont =>
    obtain ⟨_, _, _, q⟩ := hs
    exact False.elim q
theorem Fun.okP {x qual : Str} {st : Stmt} {f : Addr} {fd : FuncData} {N ps : List Str} {k : Nat} {sp : Sp} (F : Fun K x qual st f fd) (S : FnScope N ps (defScope st)) (len : ∀ vs H Q E, sp vs H Q E → vs.length = ps.length)
    (hbody : ∀ (cdv : Value) (A : Around) (outer : List Env) (s : Shared) (H : Hp) (vs : List V) (Q : VK), RoomH k (A.deeper (envOfC qual (defScope st) s.heap.objs.size f cdv)) → sp vs H Q E0 →
      ∃ t, BSs (cxP P w K mg base N qual (defScope st) f cdv A outer s H ea oe) (defBody st) t ∧ t { nx := fun _ H' => Q .non H', rt := Q } (start N vs) H) : FnP P w K mg base ea oe (k + 1) f fd ps sp := by
  obtain ⟨oc, od, kV, doc, pm, an, cdv, ct, osl, rfl, lk, hcd⟩ := F.ex
  refine fn_ofP lk hcd S len fun A outer s H vs Q hr hsp => ?_
  obtain ⟨t, h, q⟩ := hbody cdv A outer s H vs Q hr hsp
  exact ⟨t, h.h, q⟩
end
section
variable {X : Cx} {x : Str} {sf : Stmt} {ps : List Str} {f ea : Addr} {oe : Obj} {fd : FuncData} {k : Nat} {sp : Sp} {e : Expr} {es : List Expr} {t : TA} {p pos : Pos}
theorem b_fP (hst : X.stack = X.env :: X.outer) (N : Fn X.K X.mg x sf ps f fd) (G : FnP X.prog X.w X.K X.mg X.base ea oe k f fd ps sp) (hr : Room k X.A) (ha : BA (X.heldX ea oe) (e :: es) t) (hg : Gl X x := by rfl) (hdb : (x == ("__debug__" : Str)) = false := by decide) (h1 : isStar e = false := by rfl) (h2 : noStar es = true := by rfl) :
    BE (X.heldX ea oe) (.Call (.Name x p) (e :: es) [] pos) (tCall sp [] E0 t) := ⟨by
  intro pins s σ H Q I h
  refine wpAny_Call_Name_kw (ld_glob I hg N.mgx ?_ hdb)
  refine PySem.W.callWith_K (h₀ := X.base) I.ok.mod.kin N.fu.kp (thn (ha.h pos pins s σ H _ I h) fun us s1 ⟨vs, H1, I1, r, q⟩ => ⟨I1.kIn, ?_⟩) (star_cons h1) (star_any h2)
  have r2 : Vals (vs ++ []) (us ++ []) := r.append .nil
  have hl : (us ++ []).length = ps.length := by rw [← r2.length]; exact G.len _ _ _ _ q
  obtain ⟨p1, p2, p3, p4, p5⟩ := I1.pin (ea, oe) List.mem_cons_self
  have pa : PinAt ea oe X.stack s1 H1 := ⟨p1, p2, fun z => by
    rcases List.mem_cons.mp (I1.stkSub ea z) with z | z
    · exact p3 z
    · exact p4 z, p5⟩
  refine wpAny_call (codeAny_mono (G.run (X.A.mark (some (.ref ea))) X.stack s1 H1 ⟨us, []⟩ (us ++ []) (vs ++ []) Q hr.held I1.env0 pa (N.bd s1 us I1.kIn hl) r2 q) fun r s' hq => ?_)
  cases r with
  | error e => exact hq.elim
  | ok fl =>
    cases fl with
    | ret u => exact I1.after hq
    | next => exact False.elim hq
    | brk => exact False.elim hq
    | cont => exact False.elim hq⟩
theorem cxPK {P : Program} {w : World} {K : PySem.W.Frag} {mg : Str → Option Value} {base : Heap} {N : List Str} {qual : Str} {scope : Scope} {f : Addr} {cd : Value} {A : Around} {outer : List Env} {s : Shared} {H : Hp} : (cxP P w K mg base N qual scope f cd A outer s H ea oe).K = K := rfl
theorem c_isP {C : Addr} (hp : X.pn = [(ea, oe)]) (hc : oe.cls = .ref C) : CallR X (.builtin "isinstance") (rIsXC X.K C ea) := c_isXC (hp ▸ List.mem_cons_self) hc
end
end L2

set_option Elab.async false
set_option linter.all false
set_option maxRecDepth 100000
set_option maxHeartbeats 4000000
namespace L2
open PySem PySem.Spec PyProof.Rows
/-! ### what the laws ask of many exception classes at once -/
def clY (K : PySem.W.Frag) (C : Addr) : Bool :=
  PySem.W.findIn K (.ref C) "__getattribute__" == some (some (.builtin "BaseException.__getattribute__")) && PySem.W.findIn K (.ref C) "__getattr__" == some none && PySem.W.mroIn K C (.type "BaseException") == some true &&
  PySem.W.findIn K (.ref C) "__class__" == some (some (.builtin "object.__class__")) && PySem.W.specialIn K (.builtin "object.__class__") "__get__" == some (some (.builtin "getset_descriptor.__get__")) && PySem.W.takesIn K (.builtin "object.__class__") == some true &&
  PySem.W.mroIn K C (.type "object") == some true && PySem.W.kitCls K (.ref C) (.ref C) == some true
theorem clY_of {K : PySem.W.Frag} {C : Addr} (h : clY K C = true) : ClsY K C := by
  unfold clY at h
  simp only [Bool.and_eq_true, beq_iff_eq] at h
  obtain ⟨⟨⟨⟨⟨⟨⟨h1, h2⟩, h3⟩, h4⟩, h5⟩, h6⟩, h7⟩, h8⟩ := h
  exact ⟨h1, h2, h3, h4, h5, h6, h7, h8⟩
/-- its fields -/
def clF (K : PySem.W.Frag) (C : Addr) (f : Str) : Bool :=
  excFd K C && PySem.W.findIn K (.ref C) "__setattr__" == some (some (.builtin "object.__setattr__")) && PySem.W.findIn K (.ref C) f == some none && PySem.W.hasDictIn K C
theorem clF_of {K : PySem.W.Frag} {C : Addr} {f : Str} (z : ClsY K C) (h : clF K C f = true) : ExF K C f := by
  unfold clF at h
  simp only [Bool.and_eq_true, beq_iff_eq] at h
  exact exF_of h.1.1.1 z.hm h.1.1.2 h.1.2
theorem clG_of {K : PySem.W.Frag} {C : Addr} {f : Str} (z : ClsY K C) (h : clF K C f = true) : ExG K C f := by
  unfold clF at h
  simp only [Bool.and_eq_true, beq_iff_eq] at h
  exact ⟨z.hg1, z.hg2, z.hb, h.2, h.1.2⟩
/-- each is of its own kind alone -/
def clOne (K : PySem.W.Frag) (cs : List Addr) : Bool := cs.zipIdx.all fun p => cs.zipIdx.all fun q => PySem.W.kitOne K (.ref p.1) (.ref q.1) == some (p.2 == q.2) && PySem.W.kitCls K (.ref p.1) (.ref q.1) == some (p.2 == q.2)
theorem clOne_at {K : PySem.W.Frag} {cs : List Addr} (h : clOne K cs = true) {i j : Nat} {a b : Addr} (hi : cs[i]? = some a) (hj : cs[j]? = some b) : PySem.W.kitOne K (.ref a) (.ref b) = some (i == j) ∧ PySem.W.kitCls K (.ref a) (.ref b) = some (i == j) := by
  unfold clOne at h
  have m1 : (a, i) ∈ cs.zipIdx := by rw [List.mem_zipIdx_iff_getElem?]; exact hi
  have m2 : (b, j) ∈ cs.zipIdx := by rw [List.mem_zipIdx_iff_getElem?]; exact hj
  have q := List.all_eq_true.mp (List.all_eq_true.mp h _ m1) _ m2
  simp only [Bool.and_eq_true, beq_iff_eq] at q
  exact ⟨q.1, q.2⟩
def clUp (K : PySem.W.Frag) (cs : List Addr) (T : Addr) : Bool := cs.all fun C => PySem.W.kitCls K (.ref C) (.ref T) == some true && PySem.W.kitOne K (.ref C) (.type "ValueError") == some true && PySem.W.kitCls K (.ref C) (.type "BaseException") == some true && clY K C
theorem clUp_at {K : PySem.W.Frag} {cs : List Addr} {T : Addr} (h : clUp K cs T = true) {i : Nat} {a : Addr} (hi : cs[i]? = some a) : PySem.W.kitCls K (.ref a) (.ref T) = some true ∧ PySem.W.kitOne K (.ref a) (.type "ValueError") = some true ∧ PySem.W.kitCls K (.ref a) (.type "BaseException") = some true ∧ ClsY K a := by
  unfold clUp at h
  have q := List.all_eq_true.mp h _ (List.mem_of_getElem? hi)
  simp only [Bool.and_eq_true, beq_iff_eq] at q
  exact ⟨q.1.1.1, q.1.1.2, q.1.2, clY_of q.2⟩
end L2

set_option Elab.async false
set_option linter.all false
set_option maxRecDepth 100000
set_option maxHeartbeats 4000000
namespace T16
open PySem L2

def top (i : Nat) : Stmt := PySem.Challenge.pw_tierstore_k16_refusals.main.body.getD i (.Pass ⟨0, 0, 0, 0⟩)
abbrev s__law_cell_at : Stmt := top 16
abbrev s__law_raised : Stmt := top 17
abbrev s__law_kinds : Stmt := top 18
abbrev s__law_field : Stmt := top 19
abbrev s__law_taken : Stmt := top 20
abbrev s_law : Stmt := top 21
abbrev s_BadRun_init : Stmt := inClass (top 8) 0
abbrev s_BadJournal_init : Stmt := inClass (top 9) 0
abbrev s_BadTiers_init : Stmt := inClass (top 10) 0
abbrev s_NoFile_init : Stmt := inClass (top 11) 0
abbrev s_Stopped_init : Stmt := inClass (top 12) 0
abbrev s_NoSnapshot_init : Stmt := inClass (top 13) 0
abbrev s_BadFile_init : Stmt := inClass (top 14) 0
structure Cs where
  TierError : Addr
  BadKey : Addr
  BadValue : Addr
  BadDeed : Addr
  BadStamp : Addr
  BadSieve : Addr
  BadRow : Addr
  BadRun : Addr
  BadJournal : Addr
  BadTiers : Addr
  NoFile : Addr
  Stopped : Addr
  NoSnapshot : Addr
  BadFile : Addr
  BadRun_init : Addr
  BadJournal_init : Addr
  BadTiers_init : Addr
  NoFile_init : Addr
  Stopped_init : Addr
  NoSnapshot_init : Addr
  BadFile_init : Addr
structure Cl (K : PySem.W.Frag) (mg : Str → Option Value) (c : Cs) : Prop where
  m_TierError : mg "TierError" = some (.ref c.TierError)
  m_BadKey : mg "BadKey" = some (.ref c.BadKey)
  m_BadValue : mg "BadValue" = some (.ref c.BadValue)
  m_BadDeed : mg "BadDeed" = some (.ref c.BadDeed)
  m_BadStamp : mg "BadStamp" = some (.ref c.BadStamp)
  m_BadSieve : mg "BadSieve" = some (.ref c.BadSieve)
  m_BadRow : mg "BadRow" = some (.ref c.BadRow)
  m_BadRun : mg "BadRun" = some (.ref c.BadRun)
  m_BadJournal : mg "BadJournal" = some (.ref c.BadJournal)
  m_BadTiers : mg "BadTiers" = some (.ref c.BadTiers)
  m_NoFile : mg "NoFile" = some (.ref c.NoFile)
  m_Stopped : mg "Stopped" = some (.ref c.Stopped)
  m_NoSnapshot : mg "NoSnapshot" = some (.ref c.NoSnapshot)
  m_BadFile : mg "BadFile" = some (.ref c.BadFile)
  ei_BadKey : PySem.W.excIn K c.BadKey veMro "ValueError.__new__" = true
  ei_BadValue : PySem.W.excIn K c.BadValue veMro "ValueError.__new__" = true
  ei_BadDeed : PySem.W.excIn K c.BadDeed veMro "ValueError.__new__" = true
  ei_BadStamp : PySem.W.excIn K c.BadStamp veMro "ValueError.__new__" = true
  ei_BadSieve : PySem.W.excIn K c.BadSieve veMro "ValueError.__new__" = true
  ei_BadRow : PySem.W.excIn K c.BadRow veMro "ValueError.__new__" = true
  xi_BadRun : excInI K c.BadRun veMro "ValueError.__new__" c.BadRun_init = true
  cf_BadRun : clF K c.BadRun "line" = true
  tb_BadRun : PySem.W.kitCls K (.ref c.BadRun) (.type "BaseException") = some true
  xi_BadJournal : excInI K c.BadJournal veMro "ValueError.__new__" c.BadJournal_init = true
  cf_BadJournal : clF K c.BadJournal "place" = true
  tb_BadJournal : PySem.W.kitCls K (.ref c.BadJournal) (.type "BaseException") = some true
  xi_BadTiers : excInI K c.BadTiers veMro "ValueError.__new__" c.BadTiers_init = true
  cf_BadTiers : clF K c.BadTiers "line" = true
  tb_BadTiers : PySem.W.kitCls K (.ref c.BadTiers) (.type "BaseException") = some true
  xi_NoFile : excInI K c.NoFile veMro "ValueError.__new__" c.NoFile_init = true
  cf_NoFile : clF K c.NoFile "name" = true
  tb_NoFile : PySem.W.kitCls K (.ref c.NoFile) (.type "BaseException") = some true
  xi_Stopped : excInI K c.Stopped veMro "ValueError.__new__" c.Stopped_init = true
  cf_Stopped : clF K c.Stopped "step" = true
  tb_Stopped : PySem.W.kitCls K (.ref c.Stopped) (.type "BaseException") = some true
  xi_NoSnapshot : excInI K c.NoSnapshot veMro "ValueError.__new__" c.NoSnapshot_init = true
  cf_NoSnapshot : clF K c.NoSnapshot "stamp" = true
  tb_NoSnapshot : PySem.W.kitCls K (.ref c.NoSnapshot) (.type "BaseException") = some true
  xi_BadFile : excInI K c.BadFile veMro "ValueError.__new__" c.BadFile_init = true
  cf_BadFile : clF K c.BadFile "name" = true
  tb_BadFile : PySem.W.kitCls K (.ref c.BadFile) (.type "BaseException") = some true
  one : clOne K [c.BadKey, c.BadValue, c.BadDeed, c.BadStamp, c.BadSieve, c.BadRow, c.BadRun, c.BadJournal, c.BadTiers, c.NoFile, c.Stopped, c.NoSnapshot, c.BadFile] = true
  up : clUp K [c.BadKey, c.BadValue, c.BadDeed, c.BadStamp, c.BadSieve, c.BadRow, c.BadRun, c.BadJournal, c.BadTiers, c.NoFile, c.Stopped, c.NoSnapshot, c.BadFile] c.TierError = true
  tb_TierError : PySem.W.kitCls K (.ref c.TierError) (.type "BaseException") = some true
  ur_TierError : PySem.W.readsIn K c.TierError (.type "type") = true
  uf_TierError : PySem.W.findCls K (.ref c.TierError) (.type "type") "__init__" = some (.val (.builtin "ValueError.__init__"))
  ug_TierError : PySem.W.specialIn K (.ref c.TierError) "__getattribute__" = some (some (.builtin "type.__getattribute__"))
  i_BadRun : ∃ fd, Fun K "__init__" "BadRun.__init__" s_BadRun_init c.BadRun_init fd ∧ Binds K fd ["self", "line"] []
  i_BadJournal : ∃ fd, Fun K "__init__" "BadJournal.__init__" s_BadJournal_init c.BadJournal_init fd ∧ Binds K fd ["self", "place"] []
  i_BadTiers : ∃ fd, Fun K "__init__" "BadTiers.__init__" s_BadTiers_init c.BadTiers_init fd ∧ Binds K fd ["self", "line"] []
  i_NoFile : ∃ fd, Fun K "__init__" "NoFile.__init__" s_NoFile_init c.NoFile_init fd ∧ Binds K fd ["self", "name"] []
  i_Stopped : ∃ fd, Fun K "__init__" "Stopped.__init__" s_Stopped_init c.Stopped_init fd ∧ Binds K fd ["self", "step"] []
  i_NoSnapshot : ∃ fd, Fun K "__init__" "NoSnapshot.__init__" s_NoSnapshot_init c.NoSnapshot_init fd ∧ Binds K fd ["self", "stamp"] []
  i_BadFile : ∃ fd, Fun K "__init__" "BadFile.__init__" s_BadFile_init c.BadFile_init fd ∧ Binds K fd ["self", "name"] []
structure Txt (K : PySem.W.Frag) (mg : Str → Option Value) : Prop where
  f__law_cell_at : HasFn K mg "_law_cell_at" s__law_cell_at ["_law_script", "_law_k"]
  f__law_raised : HasFn K mg "_law_raised" s__law_raised ["_law_way", "_law_number", "_law_name"]
  f__law_kinds : HasFn K mg "_law_kinds" s__law_kinds ["_law_e"]
  f__law_field : HasFn K mg "_law_field" s__law_field ["_law_way", "_law_number", "_law_name"]
  f__law_taken : HasFn K mg "_law_taken" s__law_taken ["_law_way", "_law_number", "_law_name"]
  b_ValueError : mg "ValueError" = none
  b__law_e : mg "_law_e" = none
  b_isinstance : mg "isinstance" = none
  b_len : mg "len" = none
  b_range : mg "range" = none
  b_str : mg "str" = none
  cl : ∃ c : Cs, Cl K mg c
local macro_rules | `(tactic| lcg_src) => `(tactic| first | with_reducible assumption | ((with_reducible refine' Same.get ?s ?e); (case s => with_reducible assumption); (case e => lcg_src)))
local macro_rules | `(tactic| lcg_sub) => `(tactic| first | with_reducible assumption | with_reducible exact Same.refl _ | ((with_reducible refine' Same.tr ?s ?e); (case s => with_reducible assumption); (case e => lcg_sub)))
local macro_rules | `(tactic| keq_rows) => `(tactic| first | with_reducible assumption | with_reducible exact Rep.int' | with_reducible exact Rep.str' | with_reducible exact Rep.bl' | with_reducible exact Rep.non' | ((with_reducible refine' Rep.same ?s ?e); (case s => with_reducible assumption); (case e => keq_rows)) | ((with_reducible refine' Rep.mkT ?c ?_); (case c => lcg_src); keq_hits) | ((with_reducible refine' Rep.mkL ?c ?_); (case c => lcg_src); keq_hits) | ((with_reducible refine' Rep.mkD ?c); (case c => lcg_src)))
local macro_rules | `(tactic| keq_hits) => `(tactic| first | with_reducible assumption | with_reducible exact Reps.nil' | ((with_reducible refine' Reps.cons' ?c ?_); (case c => keq_rows); keq_hits) | ((with_reducible refine' Reps.same ?s ?e); (case s => with_reducible assumption); (case e => keq_hits)))
local macro_rules | `(tactic| tlg_ne) => `(tactic| first | with_reducible assumption | ((with_reducible refine' SqL.of ?c); (case c => lcg_src)) | ((with_reducible refine' SqT.of ?c); (case c => lcg_src)) | ((with_reducible refine' SqL.same ?s ?e); (case s => with_reducible assumption); (case e => tlg_ne)))
local macro_rules | `(tactic| kpc_turns) => `(tactic| first | decide | omega | (constructor <;> first | decide | omega))
local macro_rules | `(tactic| kas_types) => `(tactic| simp only [cxK, cxK', compK, triedK, heldXK, start_cc, start_cn, start_nn])
local macro_rules | `(tactic| kpt_turns) => `(tactic| first
  | refine rd_go ?_
  | ((with_reducible refine' rd_mod ?c ?_); (case c => kpc_turns))
  | ((with_reducible refine' rd_fdiv ?c ?_); (case c => kpc_turns))
  | ((with_reducible refine' rd_mulI ?c ?_); (case c => first | exact .inl (by kpc_turns) | exact .inr (by kpc_turns)))
  | ((with_reducible refine' rd_mkT ?c ?_); (case c => (simp only [List.length_cons, List.length_nil]; decide)); intro _ _ _ _)
  | ((with_reducible refine' rd_mkL ?c ?_); (case c => (simp only [List.length_cons, List.length_nil]; decide)); intro _ _ _ _ _)
  | ((with_reducible refine' rd_ixT ?c ?d ?_); (case c => tlg_ne); (case d => exact rfl))
  | ((with_reducible refine' rd_ixL ?c ?d ?_); (case c => tlg_ne); (case d => exact rfl))
  | ((with_reducible refine' rd_isT ?c ?_); (case c => lcg_src))
  | ((with_reducible refine' rd_isL ?c ?_); (case c => lcg_src))
  | ((with_reducible refine' rd_isD ?c ?_); (case c => lcg_src))
  | ((with_reducible refine' rd_lenT ?c ?_); (case c => tlg_ne))
  | ((with_reducible refine' rd_lenL ?c ?_); (case c => tlg_ne))
  | ((with_reducible refine' rd_lenS ?c ?_); (case c => first | assumption | (show _ ≤ 16777216; decide) | omega))
  | ((with_reducible refine' rd_slT ?c ?d ?_); (case c => tlg_ne); (case d => simp [HT.sIx]; done); intro _ _ _ h; (simp [cutV, HT.sIx] at h))
  | ((with_reducible refine' rd_bmL ?c ?_); (case c => lcg_src))
  | ((with_reducible refine' rd_shr ?c ?_); (case c => omega))
  | ((with_reducible refine' rd_dnew ?_); intro _ _ _ _ _)
  | ((with_reducible refine' rd_pow ?c ?_); (case c => kpc_turns))
  | ((with_reducible refine' rd_exL ?c ?_); (case c => tlg_ne))
  | ((with_reducible refine' rd_exT ?c ?_); (case c => tlg_ne))
  | ((with_reducible refine' rd_exr1 ?c ?_); (case c => kpc_turns))
  | ((with_reducible refine' rd_exr2 ?c ?_); (case c => refine ⟨?_, ?_, ?_, ?_⟩ <;> first | decide | omega))
  | ((with_reducible refine' rd_gTup ?c ?d ?_); (case c => tlg_ne); (case d => exact rfl))
  | ((with_reducible refine' rd_listL ?c ?_); (case c => tlg_ne); intro _ _ _ _ _)
  | ((with_reducible refine' rd_listT ?c ?_); (case c => tlg_ne); intro _ _ _ _ _)
  | ((with_reducible refine' rd_addL ?c ?d ?e ?_); (case c => lcg_src); (case d => lcg_src); (case e => first | (simp only [List.length_cons, List.length_nil]; decide) | (simp only [List.length_cons, List.length_nil, List.length_append, sizeLine_eq]; omega)); intro _ _ _ _ h; (try simp only [List.cons_append, List.nil_append] at h))
  | ((with_reducible refine' rd_addT ?c ?d ?f ?e ?_); (case c => lcg_src); (case d => lcg_src); (case f => (intro h; cases h)); (case e => first | (simp only [List.length_cons, List.length_nil]; decide) | (simp only [List.length_cons, List.length_nil, List.length_append, sizeLine_eq]; omega)); intro _ _ _ h; (try simp only [List.cons_append, List.nil_append] at h)))
local macro_rules | `(tactic| lcg_off) => `(tactic| repeat kpt_turns)
local macro_rules | `(tactic| kaf_pre) => `(tactic| ((with_reducible refine' rd_menu ?c ?a ?b ?_); (case c => tlg_ne); (case a => first | exact Int.emod_nonneg _ (by decide) | omega); (case b => first | exact Int.emod_lt_of_pos _ (by decide) | (simp only [List.length_cons, List.length_nil]; omega))))
local macro_rules | `(tactic| kaf_suf) => `(tactic| ((with_reducible refine' rd_pick ?c ?a ?b ?_); (case c => tlg_ne); (case a => first | exact Int.emod_nonneg _ (by decide) | omega); (case b => first | exact Int.emod_lt_of_pos _ (by decide) | (simp only [List.length_cons, List.length_nil]; omega))))
section
variable {P : Program} {w : World} {K : PySem.W.Frag} {mg : Str → Option Value} {base : Heap}
theorem Cl.u_TierError {c : Cs} (Z : Cl K mg c) : ExU K mg "TierError" c.TierError := ⟨Z.m_TierError, Z.ur_TierError, Z.uf_TierError, Z.ug_TierError⟩
/-- the thirteen, in the law's order -/
def cl (c : Cs) : List Addr := [c.BadKey, c.BadValue, c.BadDeed, c.BadStamp, c.BadSieve, c.BadRow, c.BadRun, c.BadJournal, c.BadTiers, c.NoFile, c.Stopped, c.NoSnapshot, c.BadFile]
theorem Cl.at1 {c : Cs} (Z : Cl K mg c) {i j : Nat} {a b : Addr} (hi : (cl c)[i]? = some a) (hj : (cl c)[j]? = some b) : PySem.W.kitOne K (.ref a) (.ref b) = some (i == j) ∧ PySem.W.kitCls K (.ref a) (.ref b) = some (i == j) := clOne_at Z.one hi hj
theorem Cl.atU {c : Cs} (Z : Cl K mg c) {i : Nat} {a : Addr} (hi : (cl c)[i]? = some a) : PySem.W.kitCls K (.ref a) (.ref c.TierError) = some true ∧ PySem.W.kitOne K (.ref a) (.type "ValueError") = some true ∧ PySem.W.kitCls K (.ref a) (.type "BaseException") = some true ∧ ClsY K a := clUp_at Z.up hi
theorem Cl.xf_BadRun {c : Cs} (Z : Cl K mg c) : ExF K c.BadRun "line" := clF_of (Z.atU (i := 6) rfl).2.2.2 Z.cf_BadRun
theorem Cl.xg_BadRun {c : Cs} (Z : Cl K mg c) : ExG K c.BadRun "line" := clG_of (Z.atU (i := 6) rfl).2.2.2 Z.cf_BadRun
theorem sc_BadRun_init : FnScope ["self", "line"] ["self", "line"] (defScope s_BadRun_init) := ⟨rfl, rfl, rfl, by decide +kernel, rfl, by decide +kernel, by decide +kernel⟩
theorem ok_BadRun_init (T : Txt K mg) {c : Cs} (Z : Cl K mg c) {fd : FuncData} (F : Fun K "__init__" "BadRun.__init__" s_BadRun_init c.BadRun_init fd) : FnOk P w K mg base CX0 (1) c.BadRun_init fd ["self", "line"] (spInit c.BadRun "line") := by
  refine F.okB sc_BadRun_init (fun vs H Q E h => ?_) (fun cdv A outer s H vs Q E hr h => ?_)
  · obtain ⟨ea, v, rfl, _⟩ := h
    rfl
  · obtain ⟨ea, v, rfl, he, q⟩ := h
    refine ⟨_, (bss_cons (bs_expr (be_up Z.u_TierError (ba_c (bv 0) (ba_c (bv 1) ba_nil rfl) rfl)))
    (bss_one (bs_xfld (bv 0) (bv 1)))), ?_⟩
    kas_types
    lcg_off
    refine ⟨ea, c.BadRun, none, v, c.BadRun_init, rfl, he, Z.xi_BadRun, ?_⟩
    lcg_off
    refine ⟨ea, c.BadRun, rfl, he, Z.xf_BadRun, fun dx h1 h2 => ?_⟩
    exact q dx h1 h2
theorem Cl.xf_BadJournal {c : Cs} (Z : Cl K mg c) : ExF K c.BadJournal "place" := clF_of (Z.atU (i := 7) rfl).2.2.2 Z.cf_BadJournal
theorem Cl.xg_BadJournal {c : Cs} (Z : Cl K mg c) : ExG K c.BadJournal "place" := clG_of (Z.atU (i := 7) rfl).2.2.2 Z.cf_BadJournal
theorem sc_BadJournal_init : FnScope ["self", "place"] ["self", "place"] (defScope s_BadJournal_init) := ⟨rfl, rfl, rfl, by decide +kernel, rfl, by decide +kernel, by decide +kernel⟩
theorem ok_BadJournal_init (T : Txt K mg) {c : Cs} (Z : Cl K mg c) {fd : FuncData} (F : Fun K "__init__" "BadJournal.__init__" s_BadJournal_init c.BadJournal_init fd) : FnOk P w K mg base CX0 (1) c.BadJournal_init fd ["self", "place"] (spInit c.BadJournal "place") := by
  refine F.okB sc_BadJournal_init (fun vs H Q E h => ?_) (fun cdv A outer s H vs Q E hr h => ?_)
  · obtain ⟨ea, v, rfl, _⟩ := h
    rfl
  · obtain ⟨ea, v, rfl, he, q⟩ := h
    refine ⟨_, (bss_cons (bs_expr (be_up Z.u_TierError (ba_c (bv 0) (ba_c (bv 1) ba_nil rfl) rfl)))
    (bss_one (bs_xfld (bv 0) (bv 1)))), ?_⟩
    kas_types
    lcg_off
    refine ⟨ea, c.BadJournal, none, v, c.BadJournal_init, rfl, he, Z.xi_BadJournal, ?_⟩
    lcg_off
    refine ⟨ea, c.BadJournal, rfl, he, Z.xf_BadJournal, fun dx h1 h2 => ?_⟩
    exact q dx h1 h2
theorem Cl.xf_BadTiers {c : Cs} (Z : Cl K mg c) : ExF K c.BadTiers "line" := clF_of (Z.atU (i := 8) rfl).2.2.2 Z.cf_BadTiers
theorem Cl.xg_BadTiers {c : Cs} (Z : Cl K mg c) : ExG K c.BadTiers "line" := clG_of (Z.atU (i := 8) rfl).2.2.2 Z.cf_BadTiers
theorem sc_BadTiers_init : FnScope ["self", "line"] ["self", "line"] (defScope s_BadTiers_init) := ⟨rfl, rfl, rfl, by decide +kernel, rfl, by decide +kernel, by decide +kernel⟩
theorem ok_BadTiers_init (T : Txt K mg) {c : Cs} (Z : Cl K mg c) {fd : FuncData} (F : Fun K "__init__" "BadTiers.__init__" s_BadTiers_init c.BadTiers_init fd) : FnOk P w K mg base CX0 (1) c.BadTiers_init fd ["self", "line"] (spInit c.BadTiers "line") := by
  refine F.okB sc_BadTiers_init (fun vs H Q E h => ?_) (fun cdv A outer s H vs Q E hr h => ?_)
  · obtain ⟨ea, v, rfl, _⟩ := h
    rfl
  · obtain ⟨ea, v, rfl, he, q⟩ := h
    refine ⟨_, (bss_cons (bs_expr (be_up Z.u_TierError (ba_c (bv 0) (ba_c (bv 1) ba_nil rfl) rfl)))
    (bss_one (bs_xfld (bv 0) (bv 1)))), ?_⟩
    kas_types
    lcg_off
    refine ⟨ea, c.BadTiers, none, v, c.BadTiers_init, rfl, he, Z.xi_BadTiers, ?_⟩
    lcg_off
    refine ⟨ea, c.BadTiers, rfl, he, Z.xf_BadTiers, fun dx h1 h2 => ?_⟩
    exact q dx h1 h2
theorem Cl.xf_NoFile {c : Cs} (Z : Cl K mg c) : ExF K c.NoFile "name" := clF_of (Z.atU (i := 9) rfl).2.2.2 Z.cf_NoFile
theorem Cl.xg_NoFile {c : Cs} (Z : Cl K mg c) : ExG K c.NoFile "name" := clG_of (Z.atU (i := 9) rfl).2.2.2 Z.cf_NoFile
theorem sc_NoFile_init : FnScope ["self", "name"] ["self", "name"] (defScope s_NoFile_init) := ⟨rfl, rfl, rfl, by decide +kernel, rfl, by decide +kernel, by decide +kernel⟩
theorem ok_NoFile_init (T : Txt K mg) {c : Cs} (Z : Cl K mg c) {fd : FuncData} (F : Fun K "__init__" "NoFile.__init__" s_NoFile_init c.NoFile_init fd) : FnOk P w K mg base CX0 (1) c.NoFile_init fd ["self", "name"] (spInit c.NoFile "name") := by
  refine F.okB sc_NoFile_init (fun vs H Q E h => ?_) (fun cdv A outer s H vs Q E hr h => ?_)
  · obtain ⟨ea, v, rfl, _⟩ := h
    rfl
  · obtain ⟨ea, v, rfl, he, q⟩ := h
    refine ⟨_, (bss_cons (bs_expr (be_up Z.u_TierError (ba_c (bv 0) (ba_c (bv 1) ba_nil rfl) rfl)))
    (bss_one (bs_xfld (bv 0) (bv 1)))), ?_⟩
    kas_types
    lcg_off
    refine ⟨ea, c.NoFile, none, v, c.NoFile_init, rfl, he, Z.xi_NoFile, ?_⟩
    lcg_off
    refine ⟨ea, c.NoFile, rfl, he, Z.xf_NoFile, fun dx h1 h2 => ?_⟩
    exact q dx h1 h2
theorem Cl.xf_Stopped {c : Cs} (Z : Cl K mg c) : ExF K c.Stopped "step" := clF_of (Z.atU (i := 10) rfl).2.2.2 Z.cf_Stopped
theorem Cl.xg_Stopped {c : Cs} (Z : Cl K mg c) : ExG K c.Stopped "step" := clG_of (Z.atU (i := 10) rfl).2.2.2 Z.cf_Stopped
theorem sc_Stopped_init : FnScope ["self", "step"] ["self", "step"] (defScope s_Stopped_init) := ⟨rfl, rfl, rfl, by decide +kernel, rfl, by decide +kernel, by decide +kernel⟩
theorem ok_Stopped_init (T : Txt K mg) {c : Cs} (Z : Cl K mg c) {fd : FuncData} (F : Fun K "__init__" "Stopped.__init__" s_Stopped_init c.Stopped_init fd) : FnOk P w K mg base CX0 (1) c.Stopped_init fd ["self", "step"] (spInit c.Stopped "step") := by
  refine F.okB sc_Stopped_init (fun vs H Q E h => ?_) (fun cdv A outer s H vs Q E hr h => ?_)
  · obtain ⟨ea, v, rfl, _⟩ := h
    rfl
  · obtain ⟨ea, v, rfl, he, q⟩ := h
    refine ⟨_, (bss_cons (bs_expr (be_up Z.u_TierError (ba_c (bv 0) (ba_c (bv 1) ba_nil rfl) rfl)))
    (bss_one (bs_xfld (bv 0) (bv 1)))), ?_⟩
    kas_types
    lcg_off
    refine ⟨ea, c.Stopped, none, v, c.Stopped_init, rfl, he, Z.xi_Stopped, ?_⟩
    lcg_off
    refine ⟨ea, c.Stopped, rfl, he, Z.xf_Stopped, fun dx h1 h2 => ?_⟩
    exact q dx h1 h2
theorem Cl.xf_NoSnapshot {c : Cs} (Z : Cl K mg c) : ExF K c.NoSnapshot "stamp" := clF_of (Z.atU (i := 11) rfl).2.2.2 Z.cf_NoSnapshot
theorem Cl.xg_NoSnapshot {c : Cs} (Z : Cl K mg c) : ExG K c.NoSnapshot "stamp" := clG_of (Z.atU (i := 11) rfl).2.2.2 Z.cf_NoSnapshot
theorem sc_NoSnapshot_init : FnScope ["self", "stamp"] ["self", "stamp"] (defScope s_NoSnapshot_init) := ⟨rfl, rfl, rfl, by decide +kernel, rfl, by decide +kernel, by decide +kernel⟩
theorem ok_NoSnapshot_init (T : Txt K mg) {c : Cs} (Z : Cl K mg c) {fd : FuncData} (F : Fun K "__init__" "NoSnapshot.__init__" s_NoSnapshot_init c.NoSnapshot_init fd) : FnOk P w K mg base CX0 (1) c.NoSnapshot_init fd ["self", "stamp"] (spInit c.NoSnapshot "stamp") := by
  refine F.okB sc_NoSnapshot_init (fun vs H Q E h => ?_) (fun cdv A outer s H vs Q E hr h => ?_)
  · obtain ⟨ea, v, rfl, _⟩ := h
    rfl
  · obtain ⟨ea, v, rfl, he, q⟩ := h
    refine ⟨_, (bss_cons (bs_expr (be_up Z.u_TierError (ba_c (bv 0) (ba_c (bv 1) ba_nil rfl) rfl)))
    (bss_one (bs_xfld (bv 0) (bv 1)))), ?_⟩
    kas_types
    lcg_off
    refine ⟨ea, c.NoSnapshot, none, v, c.NoSnapshot_init, rfl, he, Z.xi_NoSnapshot, ?_⟩
    lcg_off
    refine ⟨ea, c.NoSnapshot, rfl, he, Z.xf_NoSnapshot, fun dx h1 h2 => ?_⟩
    exact q dx h1 h2
theorem Cl.xf_BadFile {c : Cs} (Z : Cl K mg c) : ExF K c.BadFile "name" := clF_of (Z.atU (i := 12) rfl).2.2.2 Z.cf_BadFile
theorem Cl.xg_BadFile {c : Cs} (Z : Cl K mg c) : ExG K c.BadFile "name" := clG_of (Z.atU (i := 12) rfl).2.2.2 Z.cf_BadFile
theorem sc_BadFile_init : FnScope ["self", "name"] ["self", "name"] (defScope s_BadFile_init) := ⟨rfl, rfl, rfl, by decide +kernel, rfl, by decide +kernel, by decide +kernel⟩
theorem ok_BadFile_init (T : Txt K mg) {c : Cs} (Z : Cl K mg c) {fd : FuncData} (F : Fun K "__init__" "BadFile.__init__" s_BadFile_init c.BadFile_init fd) : FnOk P w K mg base CX0 (1) c.BadFile_init fd ["self", "name"] (spInit c.BadFile "name") := by
  refine F.okB sc_BadFile_init (fun vs H Q E h => ?_) (fun cdv A outer s H vs Q E hr h => ?_)
  · obtain ⟨ea, v, rfl, _⟩ := h
    rfl
  · obtain ⟨ea, v, rfl, he, q⟩ := h
    refine ⟨_, (bss_cons (bs_expr (be_up Z.u_TierError (ba_c (bv 0) (ba_c (bv 1) ba_nil rfl) rfl)))
    (bss_one (bs_xfld (bv 0) (bv 1)))), ?_⟩
    kas_types
    lcg_off
    refine ⟨ea, c.BadFile, none, v, c.BadFile_init, rfl, he, Z.xi_BadFile, ?_⟩
    lcg_off
    refine ⟨ea, c.BadFile, rfl, he, Z.xf_BadFile, fun dx h1 h2 => ?_⟩
    exact q dx h1 h2
end
end T16


set_option Elab.async false
set_option linter.all false
set_option maxRecDepth 100000
set_option maxHeartbeats 4000000
namespace T16
open PySem L2
local macro_rules | `(tactic| lcg_src) => `(tactic| first | with_reducible assumption | ((with_reducible refine' Same.get ?s ?e); (case s => with_reducible assumption); (case e => lcg_src)))
local macro_rules | `(tactic| lcg_sub) => `(tactic| first | with_reducible assumption | with_reducible exact Same.refl _ | ((with_reducible refine' Same.tr ?s ?e); (case s => with_reducible assumption); (case e => lcg_sub)))
local macro_rules | `(tactic| keq_rows) => `(tactic| first | with_reducible assumption | with_reducible exact Rep.int' | with_reducible exact Rep.str' | with_reducible exact Rep.bl' | with_reducible exact Rep.non' | ((with_reducible refine' Rep.same ?s ?e); (case s => with_reducible assumption); (case e => keq_rows)) | ((with_reducible refine' Rep.mkT ?c ?_); (case c => lcg_src); keq_hits) | ((with_reducible refine' Rep.mkL ?c ?_); (case c => lcg_src); keq_hits) | ((with_reducible refine' Rep.mkD ?c); (case c => lcg_src)))
local macro_rules | `(tactic| keq_hits) => `(tactic| first | with_reducible assumption | with_reducible exact Reps.nil' | ((with_reducible refine' Reps.cons' ?c ?_); (case c => keq_rows); keq_hits) | ((with_reducible refine' Reps.same ?s ?e); (case s => with_reducible assumption); (case e => keq_hits)))
local macro_rules | `(tactic| tlg_ne) => `(tactic| first | with_reducible assumption | ((with_reducible refine' SqL.of ?c); (case c => lcg_src)) | ((with_reducible refine' SqT.of ?c); (case c => lcg_src)) | ((with_reducible refine' SqL.same ?s ?e); (case s => with_reducible assumption); (case e => tlg_ne)))
local macro_rules | `(tactic| kpc_turns) => `(tactic| first | decide | omega | (constructor <;> first | decide | omega))
local macro_rules | `(tactic| kas_types) => `(tactic| simp only [cxK, cxK', compK, triedK, heldXK, start_cc, start_cn, start_nn])
local macro_rules | `(tactic| kpt_turns) => `(tactic| first
  | refine rd_go ?_
  | ((with_reducible refine' rd_mod ?c ?_); (case c => kpc_turns))
  | ((with_reducible refine' rd_fdiv ?c ?_); (case c => kpc_turns))
  | ((with_reducible refine' rd_mulI ?c ?_); (case c => first | exact .inl (by kpc_turns) | exact .inr (by kpc_turns)))
  | ((with_reducible refine' rd_mkT ?c ?_); (case c => (simp only [List.length_cons, List.length_nil]; decide)); intro _ _ _ _)
  | ((with_reducible refine' rd_mkL ?c ?_); (case c => (simp only [List.length_cons, List.length_nil]; decide)); intro _ _ _ _ _)
  | ((with_reducible refine' rd_ixT ?c ?d ?_); (case c => tlg_ne); (case d => exact rfl))
  | ((with_reducible refine' rd_ixL ?c ?d ?_); (case c => tlg_ne); (case d => exact rfl))
  | ((with_reducible refine' rd_isT ?c ?_); (case c => lcg_src))
  | ((with_reducible refine' rd_isL ?c ?_); (case c => lcg_src))
  | ((with_reducible refine' rd_isD ?c ?_); (case c => lcg_src))
  | ((with_reducible refine' rd_lenT ?c ?_); (case c => tlg_ne))
  | ((with_reducible refine' rd_lenL ?c ?_); (case c => tlg_ne))
  | ((with_reducible refine' rd_lenS ?c ?_); (case c => first | assumption | (show _ ≤ 16777216; decide) | omega))
  | ((with_reducible refine' rd_slT ?c ?d ?_); (case c => tlg_ne); (case d => simp [HT.sIx]; done); intro _ _ _ h; (simp [cutV, HT.sIx] at h))
  | ((with_reducible refine' rd_bmL ?c ?_); (case c => lcg_src))
  | ((with_reducible refine' rd_shr ?c ?_); (case c => omega))
  | ((with_reducible refine' rd_dnew ?_); intro _ _ _ _ _)
  | ((with_reducible refine' rd_pow ?c ?_); (case c => kpc_turns))
  | ((with_reducible refine' rd_exL ?c ?_); (case c => tlg_ne))
  | ((with_reducible refine' rd_exT ?c ?_); (case c => tlg_ne))
  | ((with_reducible refine' rd_exr1 ?c ?_); (case c => kpc_turns))
  | ((with_reducible refine' rd_exr2 ?c ?_); (case c => refine ⟨?_, ?_, ?_, ?_⟩ <;> first | decide | omega))
  | ((with_reducible refine' rd_gTup ?c ?d ?_); (case c => tlg_ne); (case d => exact rfl))
  | ((with_reducible refine' rd_listL ?c ?_); (case c => tlg_ne); intro _ _ _ _ _)
  | ((with_reducible refine' rd_listT ?c ?_); (case c => tlg_ne); intro _ _ _ _ _)
  | ((with_reducible refine' rd_addL ?c ?d ?e ?_); (case c => lcg_src); (case d => lcg_src); (case e => first | (simp only [List.length_cons, List.length_nil]; decide) | (simp only [List.length_cons, List.length_nil, List.length_append, sizeLine_eq]; omega)); intro _ _ _ _ h; (try simp only [List.cons_append, List.nil_append] at h))
  | ((with_reducible refine' rd_addT ?c ?d ?f ?e ?_); (case c => lcg_src); (case d => lcg_src); (case f => (intro h; cases h)); (case e => first | (simp only [List.length_cons, List.length_nil]; decide) | (simp only [List.length_cons, List.length_nil, List.length_append, sizeLine_eq]; omega)); intro _ _ _ h; (try simp only [List.cons_append, List.nil_append] at h)))
local macro_rules | `(tactic| lcg_off) => `(tactic| repeat kpt_turns)
local macro_rules | `(tactic| kaf_pre) => `(tactic| ((with_reducible refine' rd_menu ?c ?a ?b ?_); (case c => tlg_ne); (case a => first | exact Int.emod_nonneg _ (by decide) | omega); (case b => first | exact Int.emod_lt_of_pos _ (by decide) | (simp only [List.length_cons, List.length_nil]; omega))))
local macro_rules | `(tactic| kaf_suf) => `(tactic| ((with_reducible refine' rd_pick ?c ?a ?b ?_); (case c => tlg_ne); (case a => first | exact Int.emod_nonneg _ (by decide) | omega); (case b => first | exact Int.emod_lt_of_pos _ (by decide) | (simp only [List.length_cons, List.length_nil]; omega))))
section
variable {P : Program} {w : World} {K : PySem.W.Frag} {mg : Str → Option Value} {base : Heap}
def spCell (K : PySem.W.Frag) : Sp := fun vs H Q _ => ∃ (a : Addr) (ns : List Int) (k : Nat), vs = [.ref a, .int k] ∧ SqL K H a (ns.map V.int) ∧ Q (.int (ns.getD k 0)) H
theorem sc__law_cell_at : FnScope ["_law_script", "_law_k"] ["_law_script", "_law_k"] (defScope s__law_cell_at) := ⟨rfl, rfl, rfl, by decide +kernel, rfl, by decide +kernel, by decide +kernel⟩
theorem ok__law_cell_at (T : Txt K mg) {f : Addr} {fd : FuncData} (N : Fn K mg "_law_cell_at" s__law_cell_at ["_law_script", "_law_k"] f fd) : FnOk P w K mg base CX0 (1) f fd ["_law_script", "_law_k"] (spCell K) := by
  refine N.fu.okB sc__law_cell_at (fun vs H Q E h => ?_) (fun cdv A outer s H vs Q E hr h => ?_)
  · obtain ⟨a, ns, k, rfl, _⟩ := h
    rfl
  · obtain ⟨a, ns, k, rfl, hS, q⟩ := h
    refine ⟨_, (bss_cons (bs_if (bt_cmp o_lt (bv 1) (b_b c_len T.b_len (by kernel_rfl) (ba_c (bv 0) ba_nil rfl)) (nomark _))
      (bss_one (bs_ret (b_ix ix_seq (bv 0) (bv 1) (fun _ _ => rfl))))
      bss_nil)
    (bss_one (bs_ret b_int))), ?_⟩
    kas_types
    lcg_off
    refine ite_dec (fun h1 => ?_) (fun h1 => ?_)
    · rw [List.length_map] at h1
      have hk : k < ns.length := by omega
      lcg_off
      refine rd_ixL hS (atI_nat (v := .int (ns.getD k 0)) ?_) q
      rw [List.getElem?_map, List.getElem?_eq_getElem hk, List.getD_eq_getElem?_getD, List.getElem?_eq_getElem hk]
      rfl
    · rw [List.length_map] at h1
      have e : ns.getD k 0 = 0 := by
        rw [List.getD_eq_getElem?_getD, List.getElem?_eq_none (by omega)]
        rfl
      rw [e] at q
      lcg_off
      exact q
theorem cell_use {K : PySem.W.Frag} {H : Hp} {Q : VK} {E : XK} {a : Addr} {ns : List Int} {i : Int} {k : Nat} (hS : SqL K H a (ns.map V.int)) (hi : i = (k : Int)) (q : Q (.int (ns.getD k 0)) H) : spCell K [.ref a, .int i] H Q E := ⟨a, ns, k, by rw [hi], hS, q⟩

def fld : Nat → Str
  | 6 => "line"
  | 7 => "place"
  | 8 => "line"
  | 10 => "step"
  | 11 => "stamp"
  | _ => "name"
def val (i : Nat) (n : Int) (x : Str) : V := if i = 9 ∨ i = 12 then .str x else .int n
def spRaised (c : Cs) : Sp := fun vs H Q E => ∃ (i : Nat) (n : Int) (x : Str), vs = [.int (i : Int), .int n, .str x] ∧ i < 13 ∧
  (i < 6 → ∀ C, (cl c)[i]? = some C → E (.ref C) none H) ∧ (6 ≤ i → ∀ C, (cl c)[i]? = some C → ∀ dx H', Same H H' → H dx = none → H' dx = some (.xd [(fld i, val i n x)]) → E (.ref C) (some dx) H')
theorem sc__law_raised : FnScope ["_law_way", "_law_number", "_law_name"] ["_law_way", "_law_number", "_law_name"] (defScope s__law_raised) := ⟨rfl, rfl, rfl, by decide +kernel, rfl, by decide +kernel, by decide +kernel⟩
theorem ok__law_raised (T : Txt K mg) {c : Cs} (Z : Cl K mg c) {f : Addr} {fd : FuncData} (N : Fn K mg "_law_raised" s__law_raised ["_law_way", "_law_number", "_law_name"] f fd) : FnOk P w K mg base (CXE P w) (3) f fd ["_law_way", "_law_number", "_law_name"] (spRaised c) := by
  obtain ⟨_, FI_BadFile, bI_BadFile⟩ := Z.i_BadFile
  have GI_BadFile := ok_BadFile_init (P := P) (w := w) (base := base) T Z FI_BadFile
  obtain ⟨_, FI_BadJournal, bI_BadJournal⟩ := Z.i_BadJournal
  have GI_BadJournal := ok_BadJournal_init (P := P) (w := w) (base := base) T Z FI_BadJournal
  obtain ⟨_, FI_BadRun, bI_BadRun⟩ := Z.i_BadRun
  have GI_BadRun := ok_BadRun_init (P := P) (w := w) (base := base) T Z FI_BadRun
  obtain ⟨_, FI_BadTiers, bI_BadTiers⟩ := Z.i_BadTiers
  have GI_BadTiers := ok_BadTiers_init (P := P) (w := w) (base := base) T Z FI_BadTiers
  obtain ⟨_, FI_NoFile, bI_NoFile⟩ := Z.i_NoFile
  have GI_NoFile := ok_NoFile_init (P := P) (w := w) (base := base) T Z FI_NoFile
  obtain ⟨_, FI_NoSnapshot, bI_NoSnapshot⟩ := Z.i_NoSnapshot
  have GI_NoSnapshot := ok_NoSnapshot_init (P := P) (w := w) (base := base) T Z FI_NoSnapshot
  obtain ⟨_, FI_Stopped, bI_Stopped⟩ := Z.i_Stopped
  have GI_Stopped := ok_Stopped_init (P := P) (w := w) (base := base) T Z FI_Stopped
  refine N.fu.okE sc__law_raised (fun vs H Q E h => ?_) (fun cdv A outer s H vs Q E hr h => ?_)
  · obtain ⟨i, n, x, rfl, _⟩ := h
    rfl
  · obtain ⟨i, n, x, rfl, hi, q1, q2⟩ := h
    refine ⟨_, (bss_cons (bs_if (bt_cmp (o_eqD (room100 hr)) (bv 0) b_int (nomark _))
      (bss_one (bs_raise throws_of rfl ⟨Z.m_BadKey, Z.ei_BadKey⟩ (ba_c b_str ba_nil rfl)))
      bss_nil)
    (bss_cons (bs_if (bt_cmp (o_eqD (room100 hr)) (bv 0) b_int (nomark _))
      (bss_one (bs_raise throws_of rfl ⟨Z.m_BadValue, Z.ei_BadValue⟩ (ba_c b_str ba_nil rfl)))
      bss_nil)
    (bss_cons (bs_if (bt_cmp (o_eqD (room100 hr)) (bv 0) b_int (nomark _))
      (bss_one (bs_raise throws_of rfl ⟨Z.m_BadDeed, Z.ei_BadDeed⟩ (ba_c b_str ba_nil rfl)))
      bss_nil)
    (bss_cons (bs_if (bt_cmp (o_eqD (room100 hr)) (bv 0) b_int (nomark _))
      (bss_one (bs_raise throws_of rfl ⟨Z.m_BadStamp, Z.ei_BadStamp⟩ (ba_c b_str ba_nil rfl)))
      bss_nil)
    (bss_cons (bs_if (bt_cmp (o_eqD (room100 hr)) (bv 0) b_int (nomark _))
      (bss_one (bs_raise throws_of rfl ⟨Z.m_BadSieve, Z.ei_BadSieve⟩ (ba_c b_str ba_nil rfl)))
      bss_nil)
    (bss_cons (bs_if (bt_cmp (o_eqD (room100 hr)) (bv 0) b_int (nomark _))
      (bss_one (bs_raise throws_of rfl ⟨Z.m_BadRow, Z.ei_BadRow⟩ (ba_c b_str ba_nil rfl)))
      bss_nil)
    (bss_cons (bs_if (bt_cmp (o_eqD (room100 hr)) (bv 0) b_int (nomark _))
      (bss_one (bs_raiseI throws_of rfl ⟨Z.m_BadRun, Z.xi_BadRun⟩ GI_BadRun (hr.mono (by first | decide | omega)) bI_BadRun (ba_c (bv 1) ba_nil rfl)))
      bss_nil)
    (bss_cons (bs_if (bt_cmp (o_eqD (room100 hr)) (bv 0) b_int (nomark _))
      (bss_one (bs_raiseI throws_of rfl ⟨Z.m_BadJournal, Z.xi_BadJournal⟩ GI_BadJournal (hr.mono (by first | decide | omega)) bI_BadJournal (ba_c (bv 1) ba_nil rfl)))
      bss_nil)
    (bss_cons (bs_if (bt_cmp (o_eqD (room100 hr)) (bv 0) b_int (nomark _))
      (bss_one (bs_raiseI throws_of rfl ⟨Z.m_BadTiers, Z.xi_BadTiers⟩ GI_BadTiers (hr.mono (by first | decide | omega)) bI_BadTiers (ba_c (bv 1) ba_nil rfl)))
      bss_nil)
    (bss_cons (bs_if (bt_cmp (o_eqD (room100 hr)) (bv 0) b_int (nomark _))
      (bss_one (bs_raiseI throws_of rfl ⟨Z.m_NoFile, Z.xi_NoFile⟩ GI_NoFile (hr.mono (by first | decide | omega)) bI_NoFile (ba_c (bv 2) ba_nil rfl)))
      bss_nil)
    (bss_cons (bs_if (bt_cmp (o_eqD (room100 hr)) (bv 0) b_int (nomark _))
      (bss_one (bs_raiseI throws_of rfl ⟨Z.m_Stopped, Z.xi_Stopped⟩ GI_Stopped (hr.mono (by first | decide | omega)) bI_Stopped (ba_c (bv 1) ba_nil rfl)))
      bss_nil)
    (bss_cons (bs_if (bt_cmp (o_eqD (room100 hr)) (bv 0) b_int (nomark _))
      (bss_one (bs_raiseI throws_of rfl ⟨Z.m_NoSnapshot, Z.xi_NoSnapshot⟩ GI_NoSnapshot (hr.mono (by first | decide | omega)) bI_NoSnapshot (ba_c (bv 1) ba_nil rfl)))
      bss_nil)
    (bss_one (bs_raiseI throws_of rfl ⟨Z.m_BadFile, Z.xi_BadFile⟩ GI_BadFile (hr.mono (by first | decide | omega)) bI_BadFile (ba_c (bv 2) ba_nil rfl))))))))))))))), ?_⟩
    kas_types
    match i, hi with
    | 0, _ =>
      lcg_off
      rw [if_pos (by decide)]
      lcg_off
      exact ⟨by show 1 ≤ sizeLine; rw [sizeLine_eq]; decide, q1 (by decide) _ rfl⟩
    | 1, _ =>
      lcg_off
      rw [if_neg (by decide)]
      lcg_off
      rw [if_pos (by decide)]
      lcg_off
      exact ⟨by show 1 ≤ sizeLine; rw [sizeLine_eq]; decide, q1 (by decide) _ rfl⟩
    | 2, _ =>
      lcg_off
      rw [if_neg (by decide)]
      lcg_off
      rw [if_neg (by decide)]
      lcg_off
      rw [if_pos (by decide)]
      lcg_off
      exact ⟨by show 1 ≤ sizeLine; rw [sizeLine_eq]; decide, q1 (by decide) _ rfl⟩
    | 3, _ =>
      lcg_off
      rw [if_neg (by decide)]
      lcg_off
      rw [if_neg (by decide)]
      lcg_off
      rw [if_neg (by decide)]
      lcg_off
      rw [if_pos (by decide)]
      lcg_off
      exact ⟨by show 1 ≤ sizeLine; rw [sizeLine_eq]; decide, q1 (by decide) _ rfl⟩
    | 4, _ =>
      lcg_off
      rw [if_neg (by decide)]
      lcg_off
      rw [if_neg (by decide)]
      lcg_off
      rw [if_neg (by decide)]
      lcg_off
      rw [if_neg (by decide)]
      lcg_off
      rw [if_pos (by decide)]
      lcg_off
      exact ⟨by show 1 ≤ sizeLine; rw [sizeLine_eq]; decide, q1 (by decide) _ rfl⟩
    | 5, _ =>
      lcg_off
      rw [if_neg (by decide)]
      lcg_off
      rw [if_neg (by decide)]
      lcg_off
      rw [if_neg (by decide)]
      lcg_off
      rw [if_neg (by decide)]
      lcg_off
      rw [if_neg (by decide)]
      lcg_off
      rw [if_pos (by decide)]
      lcg_off
      exact ⟨by show 1 ≤ sizeLine; rw [sizeLine_eq]; decide, q1 (by decide) _ rfl⟩
    | 6, _ =>
      lcg_off
      rw [if_neg (by decide)]
      lcg_off
      rw [if_neg (by decide)]
      lcg_off
      rw [if_neg (by decide)]
      lcg_off
      rw [if_neg (by decide)]
      lcg_off
      rw [if_neg (by decide)]
      lcg_off
      rw [if_neg (by decide)]
      lcg_off
      rw [if_pos (by decide)]
      lcg_off
      exact rd_raiseI (q2 (by decide) _ rfl)
    | 7, _ =>
      lcg_off
      rw [if_neg (by decide)]
      lcg_off
      rw [if_neg (by decide)]
      lcg_off
      rw [if_neg (by decide)]
      lcg_off
      rw [if_neg (by decide)]
      lcg_off
      rw [if_neg (by decide)]
      lcg_off
      rw [if_neg (by decide)]
      lcg_off
      rw [if_neg (by decide)]
      lcg_off
      rw [if_pos (by decide)]
      lcg_off
      exact rd_raiseI (q2 (by decide) _ rfl)
    | 8, _ =>
      lcg_off
      rw [if_neg (by decide)]
      lcg_off
      rw [if_neg (by decide)]
      lcg_off
      rw [if_neg (by decide)]
      lcg_off
      rw [if_neg (by decide)]
      lcg_off
      rw [if_neg (by decide)]
      lcg_off
      rw [if_neg (by decide)]
      lcg_off
      rw [if_neg (by decide)]
      lcg_off
      rw [if_neg (by decide)]
      lcg_off
      rw [if_pos (by decide)]
      lcg_off
      exact rd_raiseI (q2 (by decide) _ rfl)
    | 9, _ =>
      lcg_off
      rw [if_neg (by decide)]
      lcg_off
      rw [if_neg (by decide)]
      lcg_off
      rw [if_neg (by decide)]
      lcg_off
      rw [if_neg (by decide)]
      lcg_off
      rw [if_neg (by decide)]
      lcg_off
      rw [if_neg (by decide)]
      lcg_off
      rw [if_neg (by decide)]
      lcg_off
      rw [if_neg (by decide)]
      lcg_off
      rw [if_neg (by decide)]
      lcg_off
      rw [if_pos (by decide)]
      lcg_off
      exact rd_raiseI (q2 (by decide) _ rfl)
    | 10, _ =>
      lcg_off
      rw [if_neg (by decide)]
      lcg_off
      rw [if_neg (by decide)]
      lcg_off
      rw [if_neg (by decide)]
      lcg_off
      rw [if_neg (by decide)]
      lcg_off
      rw [if_neg (by decide)]
      lcg_off
      rw [if_neg (by decide)]
      lcg_off
      rw [if_neg (by decide)]
      lcg_off
      rw [if_neg (by decide)]
      lcg_off
      rw [if_neg (by decide)]
      lcg_off
      rw [if_neg (by decide)]
      lcg_off
      rw [if_pos (by decide)]
      lcg_off
      exact rd_raiseI (q2 (by decide) _ rfl)
    | 11, _ =>
      lcg_off
      rw [if_neg (by decide)]
      lcg_off
      rw [if_neg (by decide)]
      lcg_off
      rw [if_neg (by decide)]
      lcg_off
      rw [if_neg (by decide)]
      lcg_off
      rw [if_neg (by decide)]
      lcg_off
      rw [if_neg (by decide)]
      lcg_off
      rw [if_neg (by decide)]
      lcg_off
      rw [if_neg (by decide)]
      lcg_off
      rw [if_neg (by decide)]
      lcg_off
      rw [if_neg (by decide)]
      lcg_off
      rw [if_neg (by decide)]
      lcg_off
      rw [if_pos (by decide)]
      lcg_off
      exact rd_raiseI (q2 (by decide) _ rfl)
    | 12, _ =>
      lcg_off
      rw [if_neg (by decide)]
      lcg_off
      rw [if_neg (by decide)]
      lcg_off
      rw [if_neg (by decide)]
      lcg_off
      rw [if_neg (by decide)]
      lcg_off
      rw [if_neg (by decide)]
      lcg_off
      rw [if_neg (by decide)]
      lcg_off
      rw [if_neg (by decide)]
      lcg_off
      rw [if_neg (by decide)]
      lcg_off
      rw [if_neg (by decide)]
      lcg_off
      rw [if_neg (by decide)]
      lcg_off
      rw [if_neg (by decide)]
      lcg_off
      rw [if_neg (by decide)]
      lcg_off
      exact rd_raiseI (q2 (by decide) _ rfl)
    | k + 13, h => exact absurd h (by omega)
theorem raised_use {c : Cs} {H : Hp} {Q : VK} {E : XK} {i : Nat} {n : Int} {x : Str} (hi : i < 13) (q1 : i < 6 → ∀ C, (cl c)[i]? = some C → E (.ref C) none H) (q2 : 6 ≤ i → ∀ C, (cl c)[i]? = some C → ∀ dx H', Same H H' → H dx = none → H' dx = some (.xd [(fld i, val i n x)]) → E (.ref C) (some dx) H') :
    spRaised c [.int (i : Int), .int n, .str x] H Q E := ⟨i, n, x, rfl, hi, q1, q2⟩
def kD (i : Nat) : List D := [.bl (i == 0), .bl (i == 1), .bl (i == 2), .bl (i == 3), .bl (i == 4), .bl (i == 5), .bl (i == 6), .bl (i == 7), .bl (i == 8), .bl (i == 9), .bl (i == 10), .bl (i == 11), .bl (i == 12)]
def spKinds (c : Cs) (C ea : Addr) : Sp := fun vs H Q _ => ∃ i, vs = [.ref ea] ∧ (cl c)[i]? = some C ∧ ∀ v H', Same H H' → Rep H' (.lst (kD i)) v → Q v H'
theorem sc__law_kinds : FnScope ["_law_e", "_law_some"] ["_law_e"] (defScope s__law_kinds) := ⟨rfl, rfl, rfl, by decide +kernel, rfl, by decide +kernel, by decide +kernel⟩
theorem ok__law_kinds (T : Txt K mg) {c : Cs} (Z : Cl K mg c) {f : Addr} {fd : FuncData} (N : Fn K mg "_law_kinds" s__law_kinds ["_law_e"] f fd) {ea C : Addr} {oe : Obj} (hc : oe.cls = .ref C) : FnP P w K mg base ea oe (1) f fd ["_law_e"] (spKinds c C ea) := by
  refine N.fu.okP sc__law_kinds (fun vs H Q E h => ?_) (fun cdv A outer s H vs Q hr h => ?_)
  · obtain ⟨i, rfl, _⟩ := h
    rfl
  · obtain ⟨i, rfl, hi, q⟩ := h
    refine ⟨_, (bss_cons (bs_set (i := 1) sc__law_kinds.nd rfl (by first | exact Or.inl rfl | exact Or.inr rfl) (b_lst (ba_c (b_b (c_isP rfl hc) T.b_isinstance (by kernel_rfl) (ba_c (bv 0) (ba_c (b_gl (v := .ref c.BadKey) ⟨_, Z.m_BadKey, rfl⟩) ba_nil rfl) rfl)) (ba_c (b_b (c_isP rfl hc) T.b_isinstance (by kernel_rfl) (ba_c (bv 0) (ba_c (b_gl (v := .ref c.BadValue) ⟨_, Z.m_BadValue, rfl⟩) ba_nil rfl) rfl)) (ba_c (b_b (c_isP rfl hc) T.b_isinstance (by kernel_rfl) (ba_c (bv 0) (ba_c (b_gl (v := .ref c.BadDeed) ⟨_, Z.m_BadDeed, rfl⟩) ba_nil rfl) rfl)) (ba_c (b_b (c_isP rfl hc) T.b_isinstance (by kernel_rfl) (ba_c (bv 0) (ba_c (b_gl (v := .ref c.BadStamp) ⟨_, Z.m_BadStamp, rfl⟩) ba_nil rfl) rfl)) ba_nil rfl) rfl) rfl) rfl)))
    (bss_cons (bs_set (i := 1) sc__law_kinds.nd rfl (by first | exact Or.inl rfl | exact Or.inr rfl) (b_op (o_addK (K := K) rfl) (bv 1) (b_lst (ba_c (b_b (c_isP rfl hc) T.b_isinstance (by kernel_rfl) (ba_c (bv 0) (ba_c (b_gl (v := .ref c.BadSieve) ⟨_, Z.m_BadSieve, rfl⟩) ba_nil rfl) rfl)) (ba_c (b_b (c_isP rfl hc) T.b_isinstance (by kernel_rfl) (ba_c (bv 0) (ba_c (b_gl (v := .ref c.BadRow) ⟨_, Z.m_BadRow, rfl⟩) ba_nil rfl) rfl)) (ba_c (b_b (c_isP rfl hc) T.b_isinstance (by kernel_rfl) (ba_c (bv 0) (ba_c (b_gl (v := .ref c.BadRun) ⟨_, Z.m_BadRun, rfl⟩) ba_nil rfl) rfl)) (ba_c (b_b (c_isP rfl hc) T.b_isinstance (by kernel_rfl) (ba_c (bv 0) (ba_c (b_gl (v := .ref c.BadJournal) ⟨_, Z.m_BadJournal, rfl⟩) ba_nil rfl) rfl)) ba_nil rfl) rfl) rfl) rfl))))
    (bss_cons (bs_set (i := 1) sc__law_kinds.nd rfl (by first | exact Or.inl rfl | exact Or.inr rfl) (b_op (o_addK (K := K) rfl) (bv 1) (b_lst (ba_c (b_b (c_isP rfl hc) T.b_isinstance (by kernel_rfl) (ba_c (bv 0) (ba_c (b_gl (v := .ref c.BadTiers) ⟨_, Z.m_BadTiers, rfl⟩) ba_nil rfl) rfl)) (ba_c (b_b (c_isP rfl hc) T.b_isinstance (by kernel_rfl) (ba_c (bv 0) (ba_c (b_gl (v := .ref c.NoFile) ⟨_, Z.m_NoFile, rfl⟩) ba_nil rfl) rfl)) (ba_c (b_b (c_isP rfl hc) T.b_isinstance (by kernel_rfl) (ba_c (bv 0) (ba_c (b_gl (v := .ref c.Stopped) ⟨_, Z.m_Stopped, rfl⟩) ba_nil rfl) rfl)) (ba_c (b_b (c_isP rfl hc) T.b_isinstance (by kernel_rfl) (ba_c (bv 0) (ba_c (b_gl (v := .ref c.NoSnapshot) ⟨_, Z.m_NoSnapshot, rfl⟩) ba_nil rfl) rfl)) ba_nil rfl) rfl) rfl) rfl))))
    (bss_one (bs_ret (b_op (o_addK (K := K) rfl) (bv 1) (b_lst (ba_c (b_b (c_isP rfl hc) T.b_isinstance (by kernel_rfl) (ba_c (bv 0) (ba_c (b_gl (v := .ref c.BadFile) ⟨_, Z.m_BadFile, rfl⟩) ba_nil rfl) rfl)) ba_nil rfl)))))))), ?_⟩
    kas_types
    simp only [cxPK]
    lcg_off
    have hy : ClsY K C := (Z.atU hi).2.2.2
    refine rd_isX1 hy rfl (Z.at1 hi (j := 0) rfl).1 ?_
    lcg_off
    refine rd_isX1 hy rfl (Z.at1 hi (j := 1) rfl).1 ?_
    lcg_off
    refine rd_isX1 hy rfl (Z.at1 hi (j := 2) rfl).1 ?_
    lcg_off
    refine rd_isX1 hy rfl (Z.at1 hi (j := 3) rfl).1 ?_
    lcg_off
    refine rd_isX1 hy rfl (Z.at1 hi (j := 4) rfl).1 ?_
    lcg_off
    refine rd_isX1 hy rfl (Z.at1 hi (j := 5) rfl).1 ?_
    lcg_off
    refine rd_isX1 hy rfl (Z.at1 hi (j := 6) rfl).1 ?_
    lcg_off
    refine rd_isX1 hy rfl (Z.at1 hi (j := 7) rfl).1 ?_
    lcg_off
    refine rd_isX1 hy rfl (Z.at1 hi (j := 8) rfl).1 ?_
    lcg_off
    refine rd_isX1 hy rfl (Z.at1 hi (j := 9) rfl).1 ?_
    lcg_off
    refine rd_isX1 hy rfl (Z.at1 hi (j := 10) rfl).1 ?_
    lcg_off
    refine rd_isX1 hy rfl (Z.at1 hi (j := 11) rfl).1 ?_
    lcg_off
    refine rd_isX1 hy rfl (Z.at1 hi (j := 12) rfl).1 ?_
    lcg_off
    unfold kD at q
    exact q _ _ (by lcg_sub) (by keq_rows)
theorem kinds_use {c : Cs} {C ea : Addr} {H : Hp} {Q : VK} {E : XK} {i : Nat} (hi : (cl c)[i]? = some C) (q : ∀ v H', Same H H' → Rep H' (.lst (kD i)) v → Q v H') : spKinds c C ea [.ref ea] H Q E := ⟨i, rfl, hi, q⟩
end
end T16


set_option Elab.async false
set_option linter.all false
set_option maxRecDepth 100000
set_option maxHeartbeats 4000000
namespace T16
open PySem L2
local macro_rules | `(tactic| lcg_src) => `(tactic| first | with_reducible assumption | ((with_reducible refine' Same.get ?s ?e); (case s => with_reducible assumption); (case e => lcg_src)))
local macro_rules | `(tactic| lcg_sub) => `(tactic| first | with_reducible assumption | with_reducible exact Same.refl _ | ((with_reducible refine' Same.tr ?s ?e); (case s => with_reducible assumption); (case e => lcg_sub)))
local macro_rules | `(tactic| keq_rows) => `(tactic| first | with_reducible assumption | with_reducible exact Rep.int' | with_reducible exact Rep.str' | with_reducible exact Rep.bl' | with_reducible exact Rep.non' | ((with_reducible refine' Rep.same ?s ?e); (case s => with_reducible assumption); (case e => keq_rows)) | ((with_reducible refine' Rep.mkT ?c ?_); (case c => lcg_src); keq_hits) | ((with_reducible refine' Rep.mkL ?c ?_); (case c => lcg_src); keq_hits) | ((with_reducible refine' Rep.mkD ?c); (case c => lcg_src)))
local macro_rules | `(tactic| keq_hits) => `(tactic| first | with_reducible assumption | with_reducible exact Reps.nil' | ((with_reducible refine' Reps.cons' ?c ?_); (case c => keq_rows); keq_hits) | ((with_reducible refine' Reps.same ?s ?e); (case s => with_reducible assumption); (case e => keq_hits)))
local macro_rules | `(tactic| tlg_ne) => `(tactic| first | with_reducible assumption | ((with_reducible refine' SqL.of ?c); (case c => lcg_src)) | ((with_reducible refine' SqT.of ?c); (case c => lcg_src)) | ((with_reducible refine' SqL.same ?s ?e); (case s => with_reducible assumption); (case e => tlg_ne)))
local macro_rules | `(tactic| kpc_turns) => `(tactic| first | decide | omega | (constructor <;> first | decide | omega))
local macro_rules | `(tactic| kas_types) => `(tactic| simp only [cxK, cxK', compK, triedK, heldXK, start_cc, start_cn, start_nn])
local macro_rules | `(tactic| kpt_turns) => `(tactic| first
  | refine rd_go ?_
  | ((with_reducible refine' rd_mod ?c ?_); (case c => kpc_turns))
  | ((with_reducible refine' rd_fdiv ?c ?_); (case c => kpc_turns))
  | ((with_reducible refine' rd_mulI ?c ?_); (case c => first | exact .inl (by kpc_turns) | exact .inr (by kpc_turns)))
  | ((with_reducible refine' rd_mkT ?c ?_); (case c => (simp only [List.length_cons, List.length_nil]; decide)); intro _ _ _ _)
  | ((with_reducible refine' rd_mkL ?c ?_); (case c => (simp only [List.length_cons, List.length_nil]; decide)); intro _ _ _ _ _)
  | ((with_reducible refine' rd_ixT ?c ?d ?_); (case c => tlg_ne); (case d => exact rfl))
  | ((with_reducible refine' rd_ixL ?c ?d ?_); (case c => tlg_ne); (case d => exact rfl))
  | ((with_reducible refine' rd_isT ?c ?_); (case c => lcg_src))
  | ((with_reducible refine' rd_isL ?c ?_); (case c => lcg_src))
  | ((with_reducible refine' rd_isD ?c ?_); (case c => lcg_src))
  | ((with_reducible refine' rd_lenT ?c ?_); (case c => tlg_ne))
  | ((with_reducible refine' rd_lenL ?c ?_); (case c => tlg_ne))
  | ((with_reducible refine' rd_lenS ?c ?_); (case c => first | assumption | (show _ ≤ 16777216; decide) | omega))
  | ((with_reducible refine' rd_slT ?c ?d ?_); (case c => tlg_ne); (case d => simp [HT.sIx]; done); intro _ _ _ h; (simp [cutV, HT.sIx] at h))
  | ((with_reducible refine' rd_bmL ?c ?_); (case c => lcg_src))
  | ((with_reducible refine' rd_shr ?c ?_); (case c => omega))
  | ((with_reducible refine' rd_dnew ?_); intro _ _ _ _ _)
  | ((with_reducible refine' rd_pow ?c ?_); (case c => kpc_turns))
  | ((with_reducible refine' rd_exL ?c ?_); (case c => tlg_ne))
  | ((with_reducible refine' rd_exT ?c ?_); (case c => tlg_ne))
  | ((with_reducible refine' rd_exr1 ?c ?_); (case c => kpc_turns))
  | ((with_reducible refine' rd_exr2 ?c ?_); (case c => refine ⟨?_, ?_, ?_, ?_⟩ <;> first | decide | omega))
  | ((with_reducible refine' rd_gTup ?c ?d ?_); (case c => tlg_ne); (case d => exact rfl))
  | ((with_reducible refine' rd_listL ?c ?_); (case c => tlg_ne); intro _ _ _ _ _)
  | ((with_reducible refine' rd_listT ?c ?_); (case c => tlg_ne); intro _ _ _ _ _)
  | ((with_reducible refine' rd_addL ?c ?d ?e ?_); (case c => lcg_src); (case d => lcg_src); (case e => first | (simp only [List.length_cons, List.length_nil]; decide) | (simp only [List.length_cons, List.length_nil, List.length_append, sizeLine_eq]; omega)); intro _ _ _ _ h; (try simp only [List.cons_append, List.nil_append] at h))
  | ((with_reducible refine' rd_addT ?c ?d ?f ?e ?_); (case c => lcg_src); (case d => lcg_src); (case f => (intro h; cases h)); (case e => first | (simp only [List.length_cons, List.length_nil]; decide) | (simp only [List.length_cons, List.length_nil, List.length_append, sizeLine_eq]; omega)); intro _ _ _ h; (try simp only [List.cons_append, List.nil_append] at h)))
local macro_rules | `(tactic| lcg_off) => `(tactic| repeat kpt_turns)
local macro_rules | `(tactic| kaf_pre) => `(tactic| ((with_reducible refine' rd_menu ?c ?a ?b ?_); (case c => tlg_ne); (case a => first | exact Int.emod_nonneg _ (by decide) | omega); (case b => first | exact Int.emod_lt_of_pos _ (by decide) | (simp only [List.length_cons, List.length_nil]; omega))))
local macro_rules | `(tactic| kaf_suf) => `(tactic| ((with_reducible refine' rd_pick ?c ?a ?b ?_); (case c => tlg_ne); (case a => first | exact Int.emod_nonneg _ (by decide) | omega); (case b => first | exact Int.emod_lt_of_pos _ (by decide) | (simp only [List.length_cons, List.length_nil]; omega))))
section
variable {P : Program} {w : World} {K : PySem.W.Frag} {mg : Str → Option Value} {base : Heap}
theorem kD_reps {H : Hp} (i : Nat) : Reps H (kD i) ((List.range (Int.toNat 13)).map (fun j => V.bl (i == j))) := by
  show Reps H (kD i) [V.bl (i == 0), V.bl (i == 1), V.bl (i == 2), V.bl (i == 3), V.bl (i == 4), V.bl (i == 5), V.bl (i == 6), V.bl (i == 7), V.bl (i == 8), V.bl (i == 9), V.bl (i == 10), V.bl (i == 11), V.bl (i == 12)]
  unfold kD
  keq_hits
theorem kD_dep (i : Nat) : (D.lst (kD i)).dep ≤ 100 := by
  unfold kD
  simp [D.dep, D.deps]
def spTaken : Sp := fun vs H Q _ => ∃ (i : Nat) (n : Int) (x : Str), vs = [.int (i : Int), .int n, .str x] ∧ i < 13 ∧ ∀ H', Same H H' → Q (.bl true) H'
theorem sc__law_taken : FnScope ["_law_way", "_law_number", "_law_name", "_law_e"] ["_law_way", "_law_number", "_law_name"] (defScope s__law_taken) := ⟨rfl, rfl, rfl, by decide +kernel, rfl, by decide +kernel, by decide +kernel⟩
theorem ok__law_taken (T : Txt K mg) {c : Cs} (Z : Cl K mg c) {f : Addr} {fd : FuncData} (N : Fn K mg "_law_taken" s__law_taken ["_law_way", "_law_number", "_law_name"] f fd) : FnOk P w K mg base CX0 (5) f fd ["_law_way", "_law_number", "_law_name"] (spTaken) := by
  obtain ⟨_, _, N__law_raised⟩ := T.f__law_raised
  have G__law_raised := ok__law_raised (P := P) (w := w) (base := base) T Z N__law_raised 
  obtain ⟨_, _, N__law_kinds⟩ := T.f__law_kinds
  refine N.fu.okB sc__law_taken (fun vs H Q E h => ?_) (fun cdv A outer s H vs Q E hr h => ?_)
  · obtain ⟨i, n, x, rfl, _⟩ := h
    rfl
  · obtain ⟨i, n, x, rfl, hi, q⟩ := h
    refine ⟨_, (bss_cons (bs_try rfl rfl rfl (fun pins EX => (bss_one (bs_expr (b_fS (tried_passes rfl) N__law_raised G__law_raised (hr.mono (by first | decide | omega)) (ba_c (bv 0) (ba_c (bv 1) (ba_c (bv 2) ba_nil rfl) rfl) rfl))))) (bh_asH rfl rfl sc__law_taken.nd (i := 3) rfl rfl Z.m_TierError Z.tb_TierError (fun C ea oe dc hc hdc hn hx => (bss_one (bs_ret (b_and (b_b (c_isH hc) T.b_isinstance (by kernel_rfl) (ba_c (bv 3) (ba_c (b_ty (T := "ValueError") T.b_ValueError (by kernel_rfl)) ba_nil rfl) rfl)) (b_one (b_cmp (o_eqD (by have h := room100 hr; exact h)) (b_fP rfl N__law_kinds (ok__law_kinds (P := P) (w := w) (base := base) T Z N__law_kinds hc) (hr.mono (by first | decide | omega)) (ba_c (bv 3) ba_nil rfl)) (b_lcH (x := "_law_k") (ix := [0]) (fv := ["_law_way"]) (osc := defScope s__law_taken) hx ⟨rfl, by decide +kernel, by decide +kernel, by rfl, by decide +kernel, by decide +kernel, by decide +kernel⟩ (by rfl) (piH_r1 T.b_range (ba_c b_int ba_nil rfl)) (fun _ _ _ _ => bf_nil) (fun _ _ _ _ => (b_cmp (o_eqD (by have h := room100 hr; exact h)) (bv 0) (bv 1) (nomark _)))) (nomark _))))))) bh_nil))
    (bss_one (bs_ret b_bl))), ?_⟩
    kas_types
    lcg_off
    have main : ∀ C dc H', (cl c)[i]? = some C → Same H H' → ∀ ea : Addr, H' ea = none → tHas K 3 c.TierError (fun C ea dc => tRet (tAndV (tCB (rIsXC K C ea) (tCons (tVar 3) (tCons (tC (V.ty "ValueError")) tNil)))
        (tOp rEqD (tCall (spKinds c C ea) [] E0 (tCons (tVar 3) tNil)) (tLC [0] (iRng1 (tCons (tC (V.int 13)) tNil)) tYes (tOp rEqD (tVar 0) (tVar 1)))))) tHN C ea dc
        { nx := tRet (tC (V.bl false)) { nx := fun x H' => Q V.non H', rt := Q }, rt := Q } [some (V.int (i : Int)), some (V.int n), some (V.str x), none] H' := by
      intro C dc H1 hC s1 ea hea
      refine ⟨true, (Z.atU hC).1, ?_⟩
      rw [if_pos rfl]
      simp only [List.set, Ends.gone]
      lcg_off
      refine rd_isX1 (Z.atU hC).2.2.2 rfl (Z.atU hC).2.1 ?_
      lcg_off
      refine kinds_use hC (fun v H2 s2 r2 => ?_)
      lcg_off
      refine lcWr (fun k ys G => ys = (List.range k).map (fun j => V.bl (i == j)) ∧ Same H2 G) (by decide) ⟨rfl, Same.refl _⟩ (fun k ys G h => by rw [h.1]; simp) (fun k ys G hk h => ?_) (fun ys p G G1 h hp sG hl => ?_)
      · obtain ⟨rfl, sG⟩ := h
        lcg_off
        refine ⟨?_, sG⟩
        rw [List.range_succ, List.map_append]
        refine congrArg _ ?_
        show [V.bl (decide ((0 : Int) + (k : Int) = (i : Int)))] = [V.bl (i == k)]
        rw [show decide ((0 : Int) + (k : Int) = (i : Int)) = (i == k) from by rw [Bool.eq_iff_iff, decide_eq_true_iff, beq_iff_eq]; omega]
      · obtain ⟨rfl, sG2⟩ := h
        have r1 : Rep G1 (.lst (kD i)) v := (r2.same sG2).same sG
        have r3 : Rep G1 (.lst (kD i)) (.ref p) := ⟨p, _, rfl, hl, kD_reps i⟩
        refine ⟨_, _, r1, r3, kD_dep i, kD_dep i, ?_⟩
        rw [pyEq_refl]
        exact q _ (by lcg_sub)
    refine raised_use hi (fun _ C hC => ⟨C, rfl, main C none H hC (Same.refl _)⟩) (fun _ C hC dx H' s1 n1 h1 => ⟨C, rfl, main C (some dx) H' hC s1⟩)
theorem taken_use {H : Hp} {Q : VK} {E : XK} {i : Nat} {n : Int} {x : Str} (hi : i < 13) (q : ∀ H', Same H H' → Q (.bl true) H') : spTaken [.int (i : Int), .int n, .str x] H Q E := ⟨i, n, x, rfl, hi, q⟩
def fval (i : Nat) (n : Int) (x : Str) : V := if i < 6 then .str (Str.ofString "none") else val i n x
def spField : Sp := fun vs H Q _ => ∃ (i : Nat) (n : Int) (x : Str), vs = [.int (i : Int), .int n, .str x] ∧ i < 13 ∧ ∀ H', Same H H' → Q (fval i n x) H'
theorem sc__law_field : FnScope ["_law_way", "_law_number", "_law_name", "_law_e"] ["_law_way", "_law_number", "_law_name"] (defScope s__law_field) := ⟨rfl, rfl, rfl, by decide +kernel, rfl, by decide +kernel, by decide +kernel⟩
theorem ok__law_field (T : Txt K mg) {c : Cs} (Z : Cl K mg c) {f : Addr} {fd : FuncData} (N : Fn K mg "_law_field" s__law_field ["_law_way", "_law_number", "_law_name"] f fd) : FnOk P w K mg base CX0 (5) f fd ["_law_way", "_law_number", "_law_name"] (spField) := by
  obtain ⟨_, _, N__law_raised⟩ := T.f__law_raised
  have G__law_raised := ok__law_raised (P := P) (w := w) (base := base) T Z N__law_raised 
  refine N.fu.okB sc__law_field (fun vs H Q E h => ?_) (fun cdv A outer s H vs Q E hr h => ?_)
  · obtain ⟨i, n, x, rfl, _⟩ := h
    rfl
  · obtain ⟨i, n, x, rfl, hi, q⟩ := h
    refine ⟨_, (bss_cons (bs_try rfl rfl rfl (fun pins EX => (bss_one (bs_expr (b_fS (tried_passes rfl) N__law_raised G__law_raised (hr.mono (by first | decide | omega)) (ba_c (bv 0) (ba_c (bv 1) (ba_c (bv 2) ba_nil rfl) rfl) rfl))))) (bh_as rfl rfl sc__law_field.nd (i := 3) rfl rfl Z.m_BadRun Z.tb_BadRun (fun C ea oe dc hc hdc hn => (bss_one (bs_ret (be_xfldK (K := K) rfl (bv 3) (List.mem_cons_self) hc hdc hn)))) (bh_as rfl rfl sc__law_field.nd (i := 3) rfl rfl Z.m_BadJournal Z.tb_BadJournal (fun C ea oe dc hc hdc hn => (bss_one (bs_ret (be_xfldK (K := K) rfl (bv 3) (List.mem_cons_self) hc hdc hn)))) (bh_as rfl rfl sc__law_field.nd (i := 3) rfl rfl Z.m_BadTiers Z.tb_BadTiers (fun C ea oe dc hc hdc hn => (bss_one (bs_ret (be_xfldK (K := K) rfl (bv 3) (List.mem_cons_self) hc hdc hn)))) (bh_as rfl rfl sc__law_field.nd (i := 3) rfl rfl Z.m_NoFile Z.tb_NoFile (fun C ea oe dc hc hdc hn => (bss_one (bs_ret (be_xfldK (K := K) rfl (bv 3) (List.mem_cons_self) hc hdc hn)))) (bh_as rfl rfl sc__law_field.nd (i := 3) rfl rfl Z.m_Stopped Z.tb_Stopped (fun C ea oe dc hc hdc hn => (bss_one (bs_ret (be_xfldK (K := K) rfl (bv 3) (List.mem_cons_self) hc hdc hn)))) (bh_as rfl rfl sc__law_field.nd (i := 3) rfl rfl Z.m_NoSnapshot Z.tb_NoSnapshot (fun C ea oe dc hc hdc hn => (bss_one (bs_ret (be_xfldK (K := K) rfl (bv 3) (List.mem_cons_self) hc hdc hn)))) (bh_as rfl rfl sc__law_field.nd (i := 3) rfl rfl Z.m_BadFile Z.tb_BadFile (fun C ea oe dc hc hdc hn => (bss_one (bs_ret (be_xfldK (K := K) rfl (bv 3) (List.mem_cons_self) hc hdc hn)))) (bh_0 rfl rfl Z.m_TierError Z.tb_TierError (fun C ea oe dc hc hdc hn => (bss_one (bs_ret b_str))) bh_nil)))))))))
    (bss_one (bs_ret b_str))), ?_⟩
    kas_types
    lcg_off
    refine raised_use hi (fun h6 C hC => ⟨C, rfl, fun ea hea => ?_⟩) (fun h6 C hC dx H1 s1 n1 h1 => ⟨C, rfl, fun ea hea => ?_⟩)
    · have ne : ∀ j, 6 ≤ j → (i == j) = false := fun j hj => by rw [beq_eq_false_iff_ne]; omega
      refine ⟨false, by rw [(Z.at1 hC (j := 6) rfl).2, ne 6 (by decide)], ?_⟩
      rw [if_neg (by decide)]
      refine ⟨false, by rw [(Z.at1 hC (j := 7) rfl).2, ne 7 (by decide)], ?_⟩
      rw [if_neg (by decide)]
      refine ⟨false, by rw [(Z.at1 hC (j := 8) rfl).2, ne 8 (by decide)], ?_⟩
      rw [if_neg (by decide)]
      refine ⟨false, by rw [(Z.at1 hC (j := 9) rfl).2, ne 9 (by decide)], ?_⟩
      rw [if_neg (by decide)]
      refine ⟨false, by rw [(Z.at1 hC (j := 10) rfl).2, ne 10 (by decide)], ?_⟩
      rw [if_neg (by decide)]
      refine ⟨false, by rw [(Z.at1 hC (j := 11) rfl).2, ne 11 (by decide)], ?_⟩
      rw [if_neg (by decide)]
      refine ⟨false, by rw [(Z.at1 hC (j := 12) rfl).2, ne 12 (by decide)], ?_⟩
      rw [if_neg (by decide)]
      refine ⟨true, (Z.atU hC).1, ?_⟩
      rw [if_pos rfl]
      lcg_off
      have e : fval i n x = .str (Str.ofString "none") := by unfold fval; rw [if_pos h6]
      rw [e] at q
      exact q _ (Same.refl _)
    · match i, h6, hi with
      | 6, _, _ =>
        cases hC
        refine ⟨true, (Z.at1 (i := 6) (j := 6) rfl rfl).2, ?_⟩
        rw [if_pos rfl]
        simp only [List.set, Ends.gone]
        lcg_off
        refine ⟨rfl, Z.xg_BadRun, dx, _, _, rfl, h1, rfl, ?_⟩
        exact q _ s1
      | 7, _, _ =>
        cases hC
        refine ⟨false, (Z.at1 (i := 7) (j := 6) rfl rfl).2, ?_⟩
        rw [if_neg (by decide)]
        refine ⟨true, (Z.at1 (i := 7) (j := 7) rfl rfl).2, ?_⟩
        rw [if_pos rfl]
        simp only [List.set, Ends.gone]
        lcg_off
        refine ⟨rfl, Z.xg_BadJournal, dx, _, _, rfl, h1, rfl, ?_⟩
        exact q _ s1
      | 8, _, _ =>
        cases hC
        refine ⟨false, (Z.at1 (i := 8) (j := 6) rfl rfl).2, ?_⟩
        rw [if_neg (by decide)]
        refine ⟨false, (Z.at1 (i := 8) (j := 7) rfl rfl).2, ?_⟩
        rw [if_neg (by decide)]
        refine ⟨true, (Z.at1 (i := 8) (j := 8) rfl rfl).2, ?_⟩
        rw [if_pos rfl]
        simp only [List.set, Ends.gone]
        lcg_off
        refine ⟨rfl, Z.xg_BadTiers, dx, _, _, rfl, h1, rfl, ?_⟩
        exact q _ s1
      | 9, _, _ =>
        cases hC
        refine ⟨false, (Z.at1 (i := 9) (j := 6) rfl rfl).2, ?_⟩
        rw [if_neg (by decide)]
        refine ⟨false, (Z.at1 (i := 9) (j := 7) rfl rfl).2, ?_⟩
        rw [if_neg (by decide)]
        refine ⟨false, (Z.at1 (i := 9) (j := 8) rfl rfl).2, ?_⟩
        rw [if_neg (by decide)]
        refine ⟨true, (Z.at1 (i := 9) (j := 9) rfl rfl).2, ?_⟩
        rw [if_pos rfl]
        simp only [List.set, Ends.gone]
        lcg_off
        refine ⟨rfl, Z.xg_NoFile, dx, _, _, rfl, h1, rfl, ?_⟩
        exact q _ s1
      | 10, _, _ =>
        cases hC
        refine ⟨false, (Z.at1 (i := 10) (j := 6) rfl rfl).2, ?_⟩
        rw [if_neg (by decide)]
        refine ⟨false, (Z.at1 (i := 10) (j := 7) rfl rfl).2, ?_⟩
        rw [if_neg (by decide)]
        refine ⟨false, (Z.at1 (i := 10) (j := 8) rfl rfl).2, ?_⟩
        rw [if_neg (by decide)]
        refine ⟨false, (Z.at1 (i := 10) (j := 9) rfl rfl).2, ?_⟩
        rw [if_neg (by decide)]
        refine ⟨true, (Z.at1 (i := 10) (j := 10) rfl rfl).2, ?_⟩
        rw [if_pos rfl]
        simp only [List.set, Ends.gone]
        lcg_off
        refine ⟨rfl, Z.xg_Stopped, dx, _, _, rfl, h1, rfl, ?_⟩
        exact q _ s1
      | 11, _, _ =>
        cases hC
        refine ⟨false, (Z.at1 (i := 11) (j := 6) rfl rfl).2, ?_⟩
        rw [if_neg (by decide)]
        refine ⟨false, (Z.at1 (i := 11) (j := 7) rfl rfl).2, ?_⟩
        rw [if_neg (by decide)]
        refine ⟨false, (Z.at1 (i := 11) (j := 8) rfl rfl).2, ?_⟩
        rw [if_neg (by decide)]
        refine ⟨false, (Z.at1 (i := 11) (j := 9) rfl rfl).2, ?_⟩
        rw [if_neg (by decide)]
        refine ⟨false, (Z.at1 (i := 11) (j := 10) rfl rfl).2, ?_⟩
        rw [if_neg (by decide)]
        refine ⟨true, (Z.at1 (i := 11) (j := 11) rfl rfl).2, ?_⟩
        rw [if_pos rfl]
        simp only [List.set, Ends.gone]
        lcg_off
        refine ⟨rfl, Z.xg_NoSnapshot, dx, _, _, rfl, h1, rfl, ?_⟩
        exact q _ s1
      | 12, _, _ =>
        cases hC
        refine ⟨false, (Z.at1 (i := 12) (j := 6) rfl rfl).2, ?_⟩
        rw [if_neg (by decide)]
        refine ⟨false, (Z.at1 (i := 12) (j := 7) rfl rfl).2, ?_⟩
        rw [if_neg (by decide)]
        refine ⟨false, (Z.at1 (i := 12) (j := 8) rfl rfl).2, ?_⟩
        rw [if_neg (by decide)]
        refine ⟨false, (Z.at1 (i := 12) (j := 9) rfl rfl).2, ?_⟩
        rw [if_neg (by decide)]
        refine ⟨false, (Z.at1 (i := 12) (j := 10) rfl rfl).2, ?_⟩
        rw [if_neg (by decide)]
        refine ⟨false, (Z.at1 (i := 12) (j := 11) rfl rfl).2, ?_⟩
        rw [if_neg (by decide)]
        refine ⟨true, (Z.at1 (i := 12) (j := 12) rfl rfl).2, ?_⟩
        rw [if_pos rfl]
        simp only [List.set, Ends.gone]
        lcg_off
        refine ⟨rfl, Z.xg_BadFile, dx, _, _, rfl, h1, rfl, ?_⟩
        exact q _ s1
      | k + 13, _, h => exact absurd h (by omega)
theorem field_use {H : Hp} {Q : VK} {E : XK} {i : Nat} {n : Int} {x : Str} (hi : i < 13) (q : ∀ H', Same H H' → Q (fval i n x) H') : spField [.int (i : Int), .int n, .str x] H Q E := ⟨i, n, x, rfl, hi, q⟩
end
end T16


set_option Elab.async false
set_option linter.all false
set_option maxRecDepth 100000
set_option maxHeartbeats 4000000
namespace T16
open PySem L2
local macro_rules | `(tactic| lcg_src) => `(tactic| first | with_reducible assumption | ((with_reducible refine' Same.get ?s ?e); (case s => with_reducible assumption); (case e => lcg_src)))
local macro_rules | `(tactic| lcg_sub) => `(tactic| first | with_reducible assumption | with_reducible exact Same.refl _ | ((with_reducible refine' Same.tr ?s ?e); (case s => with_reducible assumption); (case e => lcg_sub)))
local macro_rules | `(tactic| keq_rows) => `(tactic| first | with_reducible assumption | with_reducible exact Rep.int' | with_reducible exact Rep.str' | with_reducible exact Rep.bl' | with_reducible exact Rep.non' | ((with_reducible refine' Rep.same ?s ?e); (case s => with_reducible assumption); (case e => keq_rows)) | ((with_reducible refine' Rep.mkT ?c ?_); (case c => lcg_src); keq_hits) | ((with_reducible refine' Rep.mkL ?c ?_); (case c => lcg_src); keq_hits) | ((with_reducible refine' Rep.mkD ?c); (case c => lcg_src)))
local macro_rules | `(tactic| keq_hits) => `(tactic| first | with_reducible assumption | with_reducible exact Reps.nil' | ((with_reducible refine' Reps.cons' ?c ?_); (case c => keq_rows); keq_hits) | ((with_reducible refine' Reps.same ?s ?e); (case s => with_reducible assumption); (case e => keq_hits)))
local macro_rules | `(tactic| tlg_ne) => `(tactic| first | with_reducible assumption | ((with_reducible refine' SqL.of ?c); (case c => lcg_src)) | ((with_reducible refine' SqT.of ?c); (case c => lcg_src)) | ((with_reducible refine' SqL.same ?s ?e); (case s => with_reducible assumption); (case e => tlg_ne)))
local macro_rules | `(tactic| kpc_turns) => `(tactic| first | decide | omega | (constructor <;> first | decide | omega))
local macro_rules | `(tactic| kas_types) => `(tactic| simp only [cxK, cxK', compK, triedK, heldXK, start_cc, start_cn, start_nn])
local macro_rules | `(tactic| kpt_turns) => `(tactic| first
  | refine rd_go ?_
  | ((with_reducible refine' rd_mod ?c ?_); (case c => kpc_turns))
  | ((with_reducible refine' rd_fdiv ?c ?_); (case c => kpc_turns))
  | ((with_reducible refine' rd_mulI ?c ?_); (case c => first | exact .inl (by kpc_turns) | exact .inr (by kpc_turns)))
  | ((with_reducible refine' rd_mkT ?c ?_); (case c => (simp only [List.length_cons, List.length_nil]; decide)); intro _ _ _ _)
  | ((with_reducible refine' rd_mkL ?c ?_); (case c => (simp only [List.length_cons, List.length_nil]; decide)); intro _ _ _ _ _)
  | ((with_reducible refine' rd_ixT ?c ?d ?_); (case c => tlg_ne); (case d => exact rfl))
  | ((with_reducible refine' rd_ixL ?c ?d ?_); (case c => tlg_ne); (case d => exact rfl))
  | ((with_reducible refine' rd_isT ?c ?_); (case c => lcg_src))
  | ((with_reducible refine' rd_isL ?c ?_); (case c => lcg_src))
  | ((with_reducible refine' rd_isD ?c ?_); (case c => lcg_src))
  | ((with_reducible refine' rd_lenT ?c ?_); (case c => tlg_ne))
  | ((with_reducible refine' rd_lenL ?c ?_); (case c => tlg_ne))
  | ((with_reducible refine' rd_lenS ?c ?_); (case c => first | assumption | (show _ ≤ 16777216; decide) | omega))
  | ((with_reducible refine' rd_slT ?c ?d ?_); (case c => tlg_ne); (case d => simp [HT.sIx]; done); intro _ _ _ h; (simp [cutV, HT.sIx] at h))
  | ((with_reducible refine' rd_bmL ?c ?_); (case c => lcg_src))
  | ((with_reducible refine' rd_shr ?c ?_); (case c => omega))
  | ((with_reducible refine' rd_dnew ?_); intro _ _ _ _ _)
  | ((with_reducible refine' rd_pow ?c ?_); (case c => kpc_turns))
  | ((with_reducible refine' rd_exL ?c ?_); (case c => tlg_ne))
  | ((with_reducible refine' rd_exT ?c ?_); (case c => tlg_ne))
  | ((with_reducible refine' rd_exr1 ?c ?_); (case c => kpc_turns))
  | ((with_reducible refine' rd_exr2 ?c ?_); (case c => refine ⟨?_, ?_, ?_, ?_⟩ <;> first | decide | omega))
  | ((with_reducible refine' rd_gTup ?c ?d ?_); (case c => tlg_ne); (case d => exact rfl))
  | ((with_reducible refine' rd_listL ?c ?_); (case c => tlg_ne); intro _ _ _ _ _)
  | ((with_reducible refine' rd_listT ?c ?_); (case c => tlg_ne); intro _ _ _ _ _)
  | ((with_reducible refine' rd_addL ?c ?d ?e ?_); (case c => lcg_src); (case d => lcg_src); (case e => first | (simp only [List.length_cons, List.length_nil]; decide) | (simp only [List.length_cons, List.length_nil, List.length_append, sizeLine_eq]; omega)); intro _ _ _ _ h; (try simp only [List.cons_append, List.nil_append] at h))
  | ((with_reducible refine' rd_addT ?c ?d ?f ?e ?_); (case c => lcg_src); (case d => lcg_src); (case f => (intro h; cases h)); (case e => first | (simp only [List.length_cons, List.length_nil]; decide) | (simp only [List.length_cons, List.length_nil, List.length_append, sizeLine_eq]; omega)); intro _ _ _ h; (try simp only [List.cons_append, List.nil_append] at h)))
local macro_rules | `(tactic| lcg_off) => `(tactic| repeat kpt_turns)
local macro_rules | `(tactic| kaf_pre) => `(tactic| ((with_reducible refine' rd_menu ?c ?a ?b ?_); (case c => tlg_ne); (case a => first | exact Int.emod_nonneg _ (by decide) | omega); (case b => first | exact Int.emod_lt_of_pos _ (by decide) | (simp only [List.length_cons, List.length_nil]; omega))))
local macro_rules | `(tactic| kaf_suf) => `(tactic| ((with_reducible refine' rd_pick ?c ?a ?b ?_); (case c => tlg_ne); (case a => first | exact Int.emod_nonneg _ (by decide) | omega); (case b => first | exact Int.emod_lt_of_pos _ (by decide) | (simp only [List.length_cons, List.length_nil]; omega))))
section
variable {P : Program} {w : World} {K : PySem.W.Frag} {mg : Str → Option Value} {base : Heap}
theorem due_at (n : Int) (x : Str) : ∀ i : Nat, i < 13 → atI ((List.replicate (Int.toNat 6) [V.str (Str.ofString "none")]).flatten ++ [.int n, .int n, .int n, .str x, .int n, .int n, .str x]) (i : Int) = some (fval i n x)
  | 0, _ | 1, _ | 2, _ | 3, _ | 4, _ | 5, _ | 6, _ | 7, _ | 8, _ | 9, _ | 10, _ | 11, _ | 12, _ => rfl
  | k + 13, h => absurd h (by omega)
def spLaw (K : PySem.W.Frag) : Sp := fun vs H Q _ => ∃ (a : Addr) (ns : List Int), vs = [.ref a] ∧ SqL K H a (ns.map V.int) ∧ ns.length ≤ 63 ∧ ∀ H', Q (.bl true) H'
theorem sc_law : FnScope ["_law_script", "_law_number", "_law_name", "_law_way", "_law_due"] ["_law_script"] (defScope s_law) := ⟨rfl, rfl, rfl, by decide +kernel, rfl, by decide +kernel, by decide +kernel⟩
theorem ok_law (T : Txt K mg) {f : Addr} {fd : FuncData} (N : Fn K mg "law" s_law ["_law_script"] f fd) : FnOk P w K mg base CX0 (8) f fd ["_law_script"] (spLaw K) := by
  obtain ⟨c, Z⟩ := T.cl
  obtain ⟨_, _, N__law_cell_at⟩ := T.f__law_cell_at
  have G__law_cell_at := ok__law_cell_at (P := P) (w := w) (base := base) T N__law_cell_at 
  obtain ⟨_, _, N__law_taken⟩ := T.f__law_taken
  have G__law_taken := ok__law_taken (P := P) (w := w) (base := base) T Z N__law_taken 
  obtain ⟨_, _, N__law_field⟩ := T.f__law_field
  have G__law_field := ok__law_field (P := P) (w := w) (base := base) T Z N__law_field 
  refine N.fu.okB sc_law (fun vs H Q E h => ?_) (fun cdv A outer s H vs Q E hr h => ?_)
  · obtain ⟨a, ns, rfl, _⟩ := h
    rfl
  · obtain ⟨a, ns, rfl, hS, hn, k⟩ := h
    refine ⟨_, (bss_cons (bs_set (i := 1) sc_law.nd rfl (by first | exact Or.inl rfl | exact Or.inr rfl) (b_op op_sub (b_op op_mod (b_f N__law_cell_at G__law_cell_at (hr.mono (by first | decide | omega)) (ba_c (bv 0) (ba_c b_int ba_nil rfl) rfl)) (b_op o_mul b_int (b_op op_pow b_int b_int))) (b_op op_pow b_int b_int)))
    (bss_cons (bs_set (i := 2) sc_law.nd rfl (by first | exact Or.inl rfl | exact Or.inr rfl) (b_op o_add b_str (b_t c_str T.b_str (by kernel_rfl) (ba_c (b_op op_mod (b_f N__law_cell_at G__law_cell_at (hr.mono (by first | decide | omega)) (ba_c (bv 0) (ba_c b_int ba_nil rfl) rfl)) (b_op op_pow b_int b_int)) ba_nil rfl))))
    (bss_cons (bs_for PassesOwn.never rfl (bi_r1 T.b_range (ba_c b_int ba_nil rfl)) (bg_name (i := 3) sc_law.nd rfl (by first | exact Or.inl rfl | exact Or.inr rfl))
      (bss_cons (bs_if (bt_not (bt_val (b_f N__law_taken G__law_taken (hr.mono (by first | decide | omega)) (ba_c (bv 3) (ba_c (bv 1) (ba_c (bv 2) ba_nil rfl) rfl) rfl)) (fun _ => rfl)))
      (bss_one (bs_ret b_bl))
      bss_nil)
    (bss_cons (bs_set (i := 4) sc_law.nd rfl (by first | exact Or.inl rfl | exact Or.inr rfl) (b_op o_add (b_op o_mul (b_lst (ba_c b_str ba_nil rfl)) b_int) (b_lst (ba_c (bv 1) (ba_c (bv 1) (ba_c (bv 1) (ba_c (bv 2) (ba_c (bv 1) (ba_c (bv 1) (ba_c (bv 2) ba_nil rfl) rfl) rfl) rfl) rfl) rfl) rfl))))
    (bss_one (bs_if (bt_cmp (o_neD (room100 hr)) (b_f N__law_field G__law_field (hr.mono (by first | decide | omega)) (ba_c (bv 3) (ba_c (bv 1) (ba_c (bv 2) ba_nil rfl) rfl) rfl)) (b_ix ix_seq (bv 4) (bv 3) (fun _ _ => rfl)) (nomark _))
      (bss_one (bs_ret b_bl))
      bss_nil)))))
    (bss_one (bs_ret b_bl))))), ?_⟩
    kas_types
    lcg_off
    refine cell_use (k := 0) hS rfl ?_
    lcg_off
    refine cell_use (k := 1) hS rfl ?_
    lcg_off
    have m0 := Int.emod_nonneg (ns.getD 1 0) (show (10 ^ Int.toNat 7 : Int) ≠ 0 by decide)
    have m1 := Int.emod_lt_of_pos (ns.getD 1 0) (show (0 : Int) < 10 ^ Int.toNat 7 by decide)
    generalize ns.getD 1 0 % 10 ^ Int.toNat 7 = y at *
    generalize ns.getD 0 0 % (2 * 10 ^ Int.toNat 60) - 10 ^ Int.toNat 60 = n at *
    have p7 : (10 ^ Int.toNat 7 : Int) = 10000000 := by decide
    rw [p7] at m1
    obtain ⟨m, hm, rfl⟩ : ∃ m : Nat, m < 10 ^ 7 ∧ y = (m : Int) := ⟨y.toNat, by omega, by omega⟩
    have l7 := numT_le hm (by decide)
    refine rd_str (show ((m : Nat) : Int).natAbs.log2 < 1920 from ?_) ?_
    · rw [Int.natAbs_natCast]
      by_cases h0 : m = 0
      · rw [h0]; decide
      · rw [Nat.log2_lt h0]
        exact Nat.lt_trans hm (by decide)
    lcg_off
    refine rd_addS (by show 3 + _ ≤ _; rw [sizeLine_eq]; unfold numT at l7; omega) ?_
    lcg_off
    generalize Str.ofString "run" ++ Str.ofString (toString ((m : Nat) : Int)) = x at *
    refine forR (fun i σ G => Same H G ∧ ∃ o3 o4, σ = [some (.ref a), some (.int n), some (.str x), o3, o4]) ⟨Same.refl _, _, _, rfl⟩ (fun i σ G hi h => ?_) (fun σ G h => ?_)
    · obtain ⟨sG, o3, o4, rfl⟩ := h
      lcg_off
      rw [show (0 : Int) + (i : Int) = (i : Int) by omega]
      refine taken_use hi (fun H1 s1 => ?_)
      lcg_off
      refine rd_repL (by lcg_src) (by decide) (by decide) (by show _ ≤ _; rw [sizeLine_eq]; decide) (fun l H2 n2 s2 h2 => ?_)
      lcg_off
      rename_i hl
      refine field_use hi (fun H3 s3 => ?_)
      lcg_off
      have hat : atI ((List.replicate (Int.toNat 6) [V.str (Str.ofString "none")]).flatten ++ [.int n, .int n, .int n, .str x, .int n, .int n, .str x]) (i : Int) = some (fval i n x) := due_at n x i hi
      refine rd_ixL (SqL.same s3 (SqL.of hl)) hat ?_
      obtain ⟨d, hd, dd⟩ : ∃ d : D, (∀ G, Rep G d (fval i n x)) ∧ d.dep ≤ 100 := by
        unfold fval val
        split
        · exact ⟨.str _, fun _ => Rep.str', by simp [D.dep]⟩
        · split
          · exact ⟨.str _, fun _ => Rep.str', by simp [D.dep]⟩
          · exact ⟨.int _, fun _ => Rep.int', by simp [D.dep]⟩
      refine ⟨d, d, hd _, hd _, dd, dd, ?_⟩
      rw [pyEq_refl]
      lcg_off
      exact ⟨by lcg_sub, _, _, rfl⟩
    · exact k _
end
end T16


set_option Elab.async false
set_option linter.all false
set_option maxRecDepth 100000
set_option maxHeartbeats 4000000
namespace T16
open PySem L2
local macro_rules | `(tactic| lcg_src) => `(tactic| first | with_reducible assumption | ((with_reducible refine' Same.get ?s ?e); (case s => with_reducible assumption); (case e => lcg_src)))
local macro_rules | `(tactic| lcg_sub) => `(tactic| first | with_reducible assumption | with_reducible exact Same.refl _ | ((with_reducible refine' Same.tr ?s ?e); (case s => with_reducible assumption); (case e => lcg_sub)))
local macro_rules | `(tactic| keq_rows) => `(tactic| first | with_reducible assumption | with_reducible exact Rep.int' | with_reducible exact Rep.str' | with_reducible exact Rep.bl' | with_reducible exact Rep.non' | ((with_reducible refine' Rep.same ?s ?e); (case s => with_reducible assumption); (case e => keq_rows)) | ((with_reducible refine' Rep.mkT ?c ?_); (case c => lcg_src); keq_hits) | ((with_reducible refine' Rep.mkL ?c ?_); (case c => lcg_src); keq_hits) | ((with_reducible refine' Rep.mkD ?c); (case c => lcg_src)))
local macro_rules | `(tactic| keq_hits) => `(tactic| first | with_reducible assumption | with_reducible exact Reps.nil' | ((with_reducible refine' Reps.cons' ?c ?_); (case c => keq_rows); keq_hits) | ((with_reducible refine' Reps.same ?s ?e); (case s => with_reducible assumption); (case e => keq_hits)))
local macro_rules | `(tactic| tlg_ne) => `(tactic| first | with_reducible assumption | ((with_reducible refine' SqL.of ?c); (case c => lcg_src)) | ((with_reducible refine' SqT.of ?c); (case c => lcg_src)) | ((with_reducible refine' SqL.same ?s ?e); (case s => with_reducible assumption); (case e => tlg_ne)))
local macro_rules | `(tactic| kpc_turns) => `(tactic| first | decide | omega | (constructor <;> first | decide | omega))
local macro_rules | `(tactic| kas_types) => `(tactic| simp only [cxK, cxK', compK, triedK, heldXK, start_cc, start_cn, start_nn])
local macro_rules | `(tactic| kpt_turns) => `(tactic| first
  | refine rd_go ?_
  | ((with_reducible refine' rd_mod ?c ?_); (case c => kpc_turns))
  | ((with_reducible refine' rd_fdiv ?c ?_); (case c => kpc_turns))
  | ((with_reducible refine' rd_mulI ?c ?_); (case c => first | exact .inl (by kpc_turns) | exact .inr (by kpc_turns)))
  | ((with_reducible refine' rd_mkT ?c ?_); (case c => (simp only [List.length_cons, List.length_nil]; decide)); intro _ _ _ _)
  | ((with_reducible refine' rd_mkL ?c ?_); (case c => (simp only [List.length_cons, List.length_nil]; decide)); intro _ _ _ _ _)
  | ((with_reducible refine' rd_ixT ?c ?d ?_); (case c => tlg_ne); (case d => exact rfl))
  | ((with_reducible refine' rd_ixL ?c ?d ?_); (case c => tlg_ne); (case d => exact rfl))
  | ((with_reducible refine' rd_isT ?c ?_); (case c => lcg_src))
  | ((with_reducible refine' rd_isL ?c ?_); (case c => lcg_src))
  | ((with_reducible refine' rd_isD ?c ?_); (case c => lcg_src))
  | ((with_reducible refine' rd_lenT ?c ?_); (case c => tlg_ne))
  | ((with_reducible refine' rd_lenL ?c ?_); (case c => tlg_ne))
  | ((with_reducible refine' rd_lenS ?c ?_); (case c => first | assumption | (show _ ≤ 16777216; decide) | omega))
  | ((with_reducible refine' rd_slT ?c ?d ?_); (case c => tlg_ne); (case d => simp [HT.sIx]; done); intro _ _ _ h; (simp [cutV, HT.sIx] at h))
  | ((with_reducible refine' rd_bmL ?c ?_); (case c => lcg_src))
  | ((with_reducible refine' rd_shr ?c ?_); (case c => omega))
  | ((with_reducible refine' rd_dnew ?_); intro _ _ _ _ _)
  | ((with_reducible refine' rd_pow ?c ?_); (case c => kpc_turns))
  | ((with_reducible refine' rd_exL ?c ?_); (case c => tlg_ne))
  | ((with_reducible refine' rd_exT ?c ?_); (case c => tlg_ne))
  | ((with_reducible refine' rd_exr1 ?c ?_); (case c => kpc_turns))
  | ((with_reducible refine' rd_exr2 ?c ?_); (case c => refine ⟨?_, ?_, ?_, ?_⟩ <;> first | decide | omega))
  | ((with_reducible refine' rd_gTup ?c ?d ?_); (case c => tlg_ne); (case d => exact rfl))
  | ((with_reducible refine' rd_listL ?c ?_); (case c => tlg_ne); intro _ _ _ _ _)
  | ((with_reducible refine' rd_listT ?c ?_); (case c => tlg_ne); intro _ _ _ _ _)
  | ((with_reducible refine' rd_addL ?c ?d ?e ?_); (case c => lcg_src); (case d => lcg_src); (case e => first | (simp only [List.length_cons, List.length_nil]; decide) | (simp only [List.length_cons, List.length_nil, List.length_append, sizeLine_eq]; omega)); intro _ _ _ _ h; (try simp only [List.cons_append, List.nil_append] at h))
  | ((with_reducible refine' rd_addT ?c ?d ?f ?e ?_); (case c => lcg_src); (case d => lcg_src); (case f => (intro h; cases h)); (case e => first | (simp only [List.length_cons, List.length_nil]; decide) | (simp only [List.length_cons, List.length_nil, List.length_append, sizeLine_eq]; omega)); intro _ _ _ h; (try simp only [List.cons_append, List.nil_append] at h)))
local macro_rules | `(tactic| lcg_off) => `(tactic| repeat kpt_turns)
local macro_rules | `(tactic| kaf_pre) => `(tactic| ((with_reducible refine' rd_menu ?c ?a ?b ?_); (case c => tlg_ne); (case a => first | exact Int.emod_nonneg _ (by decide) | omega); (case b => first | exact Int.emod_lt_of_pos _ (by decide) | (simp only [List.length_cons, List.length_nil]; omega))))
local macro_rules | `(tactic| kaf_suf) => `(tactic| ((with_reducible refine' rd_pick ?c ?a ?b ?_); (case c => tlg_ne); (case a => first | exact Int.emod_nonneg _ (by decide) | omega); (case b => first | exact Int.emod_lt_of_pos _ (by decide) | (simp only [List.length_cons, List.length_nil]; omega))))
theorem all_mk {l : PySem.W.OpenLaw} {w : World} {K : PySem.W.Frag} {h : Heap} {mg : Str → Option Value} {fa f1 f2 f3 f4 f5 f6 : Addr} (X : K.In h) (G : h.Ns mainGlobals mg) (hfa : mg "law" = some (.ref fa))
    {od1 an1 : Option Addr} {sl1 : Array (Option Value)} {oc1 kV1 dc1 pm1 cd1 ct1 : Value}
    {od2 an2 : Option Addr} {sl2 : Array (Option Value)} {oc2 kV2 dc2 pm2 cd2 ct2 : Value}
    {od3 an3 : Option Addr} {sl3 : Array (Option Value)} {oc3 kV3 dc3 pm3 cd3 ct3 : Value}
    {od4 an4 : Option Addr} {sl4 : Array (Option Value)} {oc4 kV4 dc4 pm4 cd4 ct4 : Value}
    {od5 an5 : Option Addr} {sl5 : Array (Option Value)} {oc5 kV5 dc5 pm5 cd5 ct5 : Value}
    {od6 an6 : Option Addr} {sl6 : Array (Option Value)} {oc6 kV6 dc6 pm6 cd6 ct6 : Value}
    (a1 : PySem.W.nsIn K mainGlobals "_law_cell_at" = some (some (.ref f1))) (l1 : K.lookup f1 = some ⟨oc1, od1, .func (PySem.W.fnOf "_law_cell_at" "_law_cell_at" (defArgs s__law_cell_at) (defBody s__law_cell_at) (defScope s__law_cell_at) .none kV1 dc1 pm1 an1 cd1 ct1), sl1⟩) (c1 : PySem.W.codeIn K cd1 "_law_cell_at" = true) (k1 : PySem.W.keepIn K (.ref f1) = true)
    (a2 : PySem.W.nsIn K mainGlobals "_law_raised" = some (some (.ref f2))) (l2 : K.lookup f2 = some ⟨oc2, od2, .func (PySem.W.fnOf "_law_raised" "_law_raised" (defArgs s__law_raised) (defBody s__law_raised) (defScope s__law_raised) .none kV2 dc2 pm2 an2 cd2 ct2), sl2⟩) (c2 : PySem.W.codeIn K cd2 "_law_raised" = true) (k2 : PySem.W.keepIn K (.ref f2) = true)
    (a3 : PySem.W.nsIn K mainGlobals "_law_kinds" = some (some (.ref f3))) (l3 : K.lookup f3 = some ⟨oc3, od3, .func (PySem.W.fnOf "_law_kinds" "_law_kinds" (defArgs s__law_kinds) (defBody s__law_kinds) (defScope s__law_kinds) .none kV3 dc3 pm3 an3 cd3 ct3), sl3⟩) (c3 : PySem.W.codeIn K cd3 "_law_kinds" = true) (k3 : PySem.W.keepIn K (.ref f3) = true)
    (a4 : PySem.W.nsIn K mainGlobals "_law_field" = some (some (.ref f4))) (l4 : K.lookup f4 = some ⟨oc4, od4, .func (PySem.W.fnOf "_law_field" "_law_field" (defArgs s__law_field) (defBody s__law_field) (defScope s__law_field) .none kV4 dc4 pm4 an4 cd4 ct4), sl4⟩) (c4 : PySem.W.codeIn K cd4 "_law_field" = true) (k4 : PySem.W.keepIn K (.ref f4) = true)
    (a5 : PySem.W.nsIn K mainGlobals "_law_taken" = some (some (.ref f5))) (l5 : K.lookup f5 = some ⟨oc5, od5, .func (PySem.W.fnOf "_law_taken" "_law_taken" (defArgs s__law_taken) (defBody s__law_taken) (defScope s__law_taken) .none kV5 dc5 pm5 an5 cd5 ct5), sl5⟩) (c5 : PySem.W.codeIn K cd5 "_law_taken" = true) (k5 : PySem.W.keepIn K (.ref f5) = true)
    (a6 : PySem.W.nsIn K mainGlobals "law" = some (some (.ref f6))) (l6 : K.lookup f6 = some ⟨oc6, od6, .func (PySem.W.fnOf "law" "law" (defArgs s_law) (defBody s_law) (defScope s_law) .none kV6 dc6 pm6 an6 cd6 ct6), sl6⟩) (c6 : PySem.W.codeIn K cd6 "law" = true) (k6 : PySem.W.keepIn K (.ref f6) = true)
    (z0 : PySem.W.nsIn K mainGlobals "ValueError" = some none)
    (z1 : PySem.W.nsIn K mainGlobals "_law_e" = some none)
    (z2 : PySem.W.nsIn K mainGlobals "isinstance" = some none)
    (z3 : PySem.W.nsIn K mainGlobals "len" = some none)
    (z4 : PySem.W.nsIn K mainGlobals "range" = some none)
    (z5 : PySem.W.nsIn K mainGlobals "str" = some none)
    {CTierError CBadKey CBadValue CBadDeed CBadStamp CBadSieve CBadRow CBadRun CBadJournal CBadTiers CNoFile CStopped CNoSnapshot CBadFile : Addr}
    (m_TierError : PySem.W.nsIn K mainGlobals "TierError" = some (some (.ref CTierError)))
    (m_BadKey : PySem.W.nsIn K mainGlobals "BadKey" = some (some (.ref CBadKey)))
    (m_BadValue : PySem.W.nsIn K mainGlobals "BadValue" = some (some (.ref CBadValue)))
    (m_BadDeed : PySem.W.nsIn K mainGlobals "BadDeed" = some (some (.ref CBadDeed)))
    (m_BadStamp : PySem.W.nsIn K mainGlobals "BadStamp" = some (some (.ref CBadStamp)))
    (m_BadSieve : PySem.W.nsIn K mainGlobals "BadSieve" = some (some (.ref CBadSieve)))
    (m_BadRow : PySem.W.nsIn K mainGlobals "BadRow" = some (some (.ref CBadRow)))
    (m_BadRun : PySem.W.nsIn K mainGlobals "BadRun" = some (some (.ref CBadRun)))
    (m_BadJournal : PySem.W.nsIn K mainGlobals "BadJournal" = some (some (.ref CBadJournal)))
    (m_BadTiers : PySem.W.nsIn K mainGlobals "BadTiers" = some (some (.ref CBadTiers)))
    (m_NoFile : PySem.W.nsIn K mainGlobals "NoFile" = some (some (.ref CNoFile)))
    (m_Stopped : PySem.W.nsIn K mainGlobals "Stopped" = some (some (.ref CStopped)))
    (m_NoSnapshot : PySem.W.nsIn K mainGlobals "NoSnapshot" = some (some (.ref CNoSnapshot)))
    (m_BadFile : PySem.W.nsIn K mainGlobals "BadFile" = some (some (.ref CBadFile)))
    {CBadRun_init : Addr} {odIBadRun anIBadRun : Option Addr} {slIBadRun : Array (Option Value)} {ocIBadRun kVIBadRun dcIBadRun pmIBadRun cdIBadRun ctIBadRun : Value}
    (ai_BadRun : PySem.W.findIn K (.ref CBadRun) "__init__" = some (some (.ref CBadRun_init))) (li_BadRun : K.lookup CBadRun_init = some ⟨ocIBadRun, odIBadRun, .func (PySem.W.fnOf "__init__" "BadRun.__init__" (defArgs s_BadRun_init) (defBody s_BadRun_init) (defScope s_BadRun_init) .none kVIBadRun dcIBadRun pmIBadRun anIBadRun cdIBadRun ctIBadRun), slIBadRun⟩) (ci_BadRun : PySem.W.codeIn K cdIBadRun "BadRun.__init__" = true) (ki_BadRun : PySem.W.keepIn K (.ref CBadRun_init) = true)
    {CBadJournal_init : Addr} {odIBadJournal anIBadJournal : Option Addr} {slIBadJournal : Array (Option Value)} {ocIBadJournal kVIBadJournal dcIBadJournal pmIBadJournal cdIBadJournal ctIBadJournal : Value}
    (ai_BadJournal : PySem.W.findIn K (.ref CBadJournal) "__init__" = some (some (.ref CBadJournal_init))) (li_BadJournal : K.lookup CBadJournal_init = some ⟨ocIBadJournal, odIBadJournal, .func (PySem.W.fnOf "__init__" "BadJournal.__init__" (defArgs s_BadJournal_init) (defBody s_BadJournal_init) (defScope s_BadJournal_init) .none kVIBadJournal dcIBadJournal pmIBadJournal anIBadJournal cdIBadJournal ctIBadJournal), slIBadJournal⟩) (ci_BadJournal : PySem.W.codeIn K cdIBadJournal "BadJournal.__init__" = true) (ki_BadJournal : PySem.W.keepIn K (.ref CBadJournal_init) = true)
    {CBadTiers_init : Addr} {odIBadTiers anIBadTiers : Option Addr} {slIBadTiers : Array (Option Value)} {ocIBadTiers kVIBadTiers dcIBadTiers pmIBadTiers cdIBadTiers ctIBadTiers : Value}
    (ai_BadTiers : PySem.W.findIn K (.ref CBadTiers) "__init__" = some (some (.ref CBadTiers_init))) (li_BadTiers : K.lookup CBadTiers_init = some ⟨ocIBadTiers, odIBadTiers, .func (PySem.W.fnOf "__init__" "BadTiers.__init__" (defArgs s_BadTiers_init) (defBody s_BadTiers_init) (defScope s_BadTiers_init) .none kVIBadTiers dcIBadTiers pmIBadTiers anIBadTiers cdIBadTiers ctIBadTiers), slIBadTiers⟩) (ci_BadTiers : PySem.W.codeIn K cdIBadTiers "BadTiers.__init__" = true) (ki_BadTiers : PySem.W.keepIn K (.ref CBadTiers_init) = true)
    {CNoFile_init : Addr} {odINoFile anINoFile : Option Addr} {slINoFile : Array (Option Value)} {ocINoFile kVINoFile dcINoFile pmINoFile cdINoFile ctINoFile : Value}
    (ai_NoFile : PySem.W.findIn K (.ref CNoFile) "__init__" = some (some (.ref CNoFile_init))) (li_NoFile : K.lookup CNoFile_init = some ⟨ocINoFile, odINoFile, .func (PySem.W.fnOf "__init__" "NoFile.__init__" (defArgs s_NoFile_init) (defBody s_NoFile_init) (defScope s_NoFile_init) .none kVINoFile dcINoFile pmINoFile anINoFile cdINoFile ctINoFile), slINoFile⟩) (ci_NoFile : PySem.W.codeIn K cdINoFile "NoFile.__init__" = true) (ki_NoFile : PySem.W.keepIn K (.ref CNoFile_init) = true)
    {CStopped_init : Addr} {odIStopped anIStopped : Option Addr} {slIStopped : Array (Option Value)} {ocIStopped kVIStopped dcIStopped pmIStopped cdIStopped ctIStopped : Value}
    (ai_Stopped : PySem.W.findIn K (.ref CStopped) "__init__" = some (some (.ref CStopped_init))) (li_Stopped : K.lookup CStopped_init = some ⟨ocIStopped, odIStopped, .func (PySem.W.fnOf "__init__" "Stopped.__init__" (defArgs s_Stopped_init) (defBody s_Stopped_init) (defScope s_Stopped_init) .none kVIStopped dcIStopped pmIStopped anIStopped cdIStopped ctIStopped), slIStopped⟩) (ci_Stopped : PySem.W.codeIn K cdIStopped "Stopped.__init__" = true) (ki_Stopped : PySem.W.keepIn K (.ref CStopped_init) = true)
    {CNoSnapshot_init : Addr} {odINoSnapshot anINoSnapshot : Option Addr} {slINoSnapshot : Array (Option Value)} {ocINoSnapshot kVINoSnapshot dcINoSnapshot pmINoSnapshot cdINoSnapshot ctINoSnapshot : Value}
    (ai_NoSnapshot : PySem.W.findIn K (.ref CNoSnapshot) "__init__" = some (some (.ref CNoSnapshot_init))) (li_NoSnapshot : K.lookup CNoSnapshot_init = some ⟨ocINoSnapshot, odINoSnapshot, .func (PySem.W.fnOf "__init__" "NoSnapshot.__init__" (defArgs s_NoSnapshot_init) (defBody s_NoSnapshot_init) (defScope s_NoSnapshot_init) .none kVINoSnapshot dcINoSnapshot pmINoSnapshot anINoSnapshot cdINoSnapshot ctINoSnapshot), slINoSnapshot⟩) (ci_NoSnapshot : PySem.W.codeIn K cdINoSnapshot "NoSnapshot.__init__" = true) (ki_NoSnapshot : PySem.W.keepIn K (.ref CNoSnapshot_init) = true)
    {CBadFile_init : Addr} {odIBadFile anIBadFile : Option Addr} {slIBadFile : Array (Option Value)} {ocIBadFile kVIBadFile dcIBadFile pmIBadFile cdIBadFile ctIBadFile : Value}
    (ai_BadFile : PySem.W.findIn K (.ref CBadFile) "__init__" = some (some (.ref CBadFile_init))) (li_BadFile : K.lookup CBadFile_init = some ⟨ocIBadFile, odIBadFile, .func (PySem.W.fnOf "__init__" "BadFile.__init__" (defArgs s_BadFile_init) (defBody s_BadFile_init) (defScope s_BadFile_init) .none kVIBadFile dcIBadFile pmIBadFile anIBadFile cdIBadFile ctIBadFile), slIBadFile⟩) (ci_BadFile : PySem.W.codeIn K cdIBadFile "BadFile.__init__" = true) (ki_BadFile : PySem.W.keepIn K (.ref CBadFile_init) = true)
    (allc : (PySem.W.excIn K CBadKey veMro "ValueError.__new__", PySem.W.excIn K CBadValue veMro "ValueError.__new__", PySem.W.excIn K CBadDeed veMro "ValueError.__new__", PySem.W.excIn K CBadStamp veMro "ValueError.__new__", PySem.W.excIn K CBadSieve veMro "ValueError.__new__", PySem.W.excIn K CBadRow veMro "ValueError.__new__", excInI K CBadRun veMro "ValueError.__new__" CBadRun_init, clF K CBadRun "line", PySem.W.kitCls K (.ref CBadRun) (.type "BaseException"), excInI K CBadJournal veMro "ValueError.__new__" CBadJournal_init, clF K CBadJournal "place", PySem.W.kitCls K (.ref CBadJournal) (.type "BaseException"), excInI K CBadTiers veMro "ValueError.__new__" CBadTiers_init, clF K CBadTiers "line", PySem.W.kitCls K (.ref CBadTiers) (.type "BaseException"), excInI K CNoFile veMro "ValueError.__new__" CNoFile_init, clF K CNoFile "name", PySem.W.kitCls K (.ref CNoFile) (.type "BaseException"), excInI K CStopped veMro "ValueError.__new__" CStopped_init, clF K CStopped "step", PySem.W.kitCls K (.ref CStopped) (.type "BaseException"), excInI K CNoSnapshot veMro "ValueError.__new__" CNoSnapshot_init, clF K CNoSnapshot "stamp", PySem.W.kitCls K (.ref CNoSnapshot) (.type "BaseException"), excInI K CBadFile veMro "ValueError.__new__" CBadFile_init, clF K CBadFile "name", PySem.W.kitCls K (.ref CBadFile) (.type "BaseException"), clOne K [CBadKey, CBadValue, CBadDeed, CBadStamp, CBadSieve, CBadRow, CBadRun, CBadJournal, CBadTiers, CNoFile, CStopped, CNoSnapshot, CBadFile], clUp K [CBadKey, CBadValue, CBadDeed, CBadStamp, CBadSieve, CBadRow, CBadRun, CBadJournal, CBadTiers, CNoFile, CStopped, CNoSnapshot, CBadFile] CTierError, PySem.W.kitCls K (.ref CTierError) (.type "BaseException"), PySem.W.readsIn K CTierError (.type "type"), PySem.W.findCls K (.ref CTierError) (.type "type") "__init__", PySem.W.specialIn K (.ref CTierError) "__getattribute__") = (true, true, true, true, true, true, true, true, some true, true, true, some true, true, true, some true, true, true, some true, true, true, some true, true, true, some true, true, true, some true, true, true, some true, true, some (.val (.builtin "ValueError.__init__")), some (some (.builtin "type.__getattribute__"))))
    : ∃ fd : FuncData, (∀ (s : Shared) (v : Value), BindsTo s fd ⟨[v], []⟩ [("_law_script", v)]) ∧ ∀ base : Heap, K.In base → base.Ns mainGlobals mg → FnOk l.prog w K mg base CX0 8 fa fd ["_law_script"] (spLaw K) := by
  simp only [Prod.mk.injEq] at allc
  obtain ⟨ei_BadKey, ei_BadValue, ei_BadDeed, ei_BadStamp, ei_BadSieve, ei_BadRow, xi_BadRun, cf_BadRun, tb_BadRun, xi_BadJournal, cf_BadJournal, tb_BadJournal, xi_BadTiers, cf_BadTiers, tb_BadTiers, xi_NoFile, cf_NoFile, tb_NoFile, xi_Stopped, cf_Stopped, tb_Stopped, xi_NoSnapshot, cf_NoSnapshot, tb_NoSnapshot, xi_BadFile, cf_BadFile, tb_BadFile, one, up, tb_TierError, ur_TierError, uf_TierError, ug_TierError⟩ := allc
  have e := hfa.symm.trans (PySem.W.mg_of X G a6)
  cases e
  have F1 := fun_mk (st := s__law_cell_at) l1 c1 k1
  have b1 := F1.binds (ps := ["_law_script", "_law_k"]) fun _ _ _ _ _ _ us hl => match us, hl with | [_, _], _ => rfl
  have F2 := fun_mk (st := s__law_raised) l2 c2 k2
  have b2 := F2.binds (ps := ["_law_way", "_law_number", "_law_name"]) fun _ _ _ _ _ _ us hl => match us, hl with | [_, _, _], _ => rfl
  have F3 := fun_mk (st := s__law_kinds) l3 c3 k3
  have b3 := F3.binds (ps := ["_law_e"]) fun _ _ _ _ _ _ us hl => match us, hl with | [_], _ => rfl
  have F4 := fun_mk (st := s__law_field) l4 c4 k4
  have b4 := F4.binds (ps := ["_law_way", "_law_number", "_law_name"]) fun _ _ _ _ _ _ us hl => match us, hl with | [_, _, _], _ => rfl
  have F5 := fun_mk (st := s__law_taken) l5 c5 k5
  have b5 := F5.binds (ps := ["_law_way", "_law_number", "_law_name"]) fun _ _ _ _ _ _ us hl => match us, hl with | [_, _, _], _ => rfl
  have F6 := fun_mk (st := s_law) l6 c6 k6
  have b6 := F6.binds (ps := ["_law_script"]) fun _ _ _ _ _ _ us hl => match us, hl with | [_], _ => rfl
  have FIBadRun := fun_mk (st := s_BadRun_init) li_BadRun ci_BadRun ki_BadRun
  have bIBadRun := FIBadRun.binds (ps := ["self", "line"]) fun _ _ _ _ _ _ us hl => match us, hl with | [_, _], _ => rfl
  have FIBadJournal := fun_mk (st := s_BadJournal_init) li_BadJournal ci_BadJournal ki_BadJournal
  have bIBadJournal := FIBadJournal.binds (ps := ["self", "place"]) fun _ _ _ _ _ _ us hl => match us, hl with | [_, _], _ => rfl
  have FIBadTiers := fun_mk (st := s_BadTiers_init) li_BadTiers ci_BadTiers ki_BadTiers
  have bIBadTiers := FIBadTiers.binds (ps := ["self", "line"]) fun _ _ _ _ _ _ us hl => match us, hl with | [_, _], _ => rfl
  have FINoFile := fun_mk (st := s_NoFile_init) li_NoFile ci_NoFile ki_NoFile
  have bINoFile := FINoFile.binds (ps := ["self", "name"]) fun _ _ _ _ _ _ us hl => match us, hl with | [_, _], _ => rfl
  have FIStopped := fun_mk (st := s_Stopped_init) li_Stopped ci_Stopped ki_Stopped
  have bIStopped := FIStopped.binds (ps := ["self", "step"]) fun _ _ _ _ _ _ us hl => match us, hl with | [_, _], _ => rfl
  have FINoSnapshot := fun_mk (st := s_NoSnapshot_init) li_NoSnapshot ci_NoSnapshot ki_NoSnapshot
  have bINoSnapshot := FINoSnapshot.binds (ps := ["self", "stamp"]) fun _ _ _ _ _ _ us hl => match us, hl with | [_, _], _ => rfl
  have FIBadFile := fun_mk (st := s_BadFile_init) li_BadFile ci_BadFile ki_BadFile
  have bIBadFile := FIBadFile.binds (ps := ["self", "name"]) fun _ _ _ _ _ _ us hl => match us, hl with | [_, _], _ => rfl
  have T : Txt K mg := { f__law_cell_at := ⟨_, _, F1, PySem.W.mg_of X G a1, b1⟩, f__law_raised := ⟨_, _, F2, PySem.W.mg_of X G a2, b2⟩, f__law_kinds := ⟨_, _, F3, PySem.W.mg_of X G a3, b3⟩, f__law_field := ⟨_, _, F4, PySem.W.mg_of X G a4, b4⟩, f__law_taken := ⟨_, _, F5, PySem.W.mg_of X G a5, b5⟩, b_ValueError := PySem.W.mg_none_of X G z0, b__law_e := PySem.W.mg_none_of X G z1, b_isinstance := PySem.W.mg_none_of X G z2, b_len := PySem.W.mg_none_of X G z3, b_range := PySem.W.mg_none_of X G z4, b_str := PySem.W.mg_none_of X G z5, cl := ⟨⟨CTierError, CBadKey, CBadValue, CBadDeed, CBadStamp, CBadSieve, CBadRow, CBadRun, CBadJournal, CBadTiers, CNoFile, CStopped, CNoSnapshot, CBadFile, CBadRun_init, CBadJournal_init, CBadTiers_init, CNoFile_init, CStopped_init, CNoSnapshot_init, CBadFile_init⟩, { m_TierError := PySem.W.mg_of X G m_TierError, m_BadKey := PySem.W.mg_of X G m_BadKey, m_BadValue := PySem.W.mg_of X G m_BadValue, m_BadDeed := PySem.W.mg_of X G m_BadDeed, m_BadStamp := PySem.W.mg_of X G m_BadStamp, m_BadSieve := PySem.W.mg_of X G m_BadSieve, m_BadRow := PySem.W.mg_of X G m_BadRow, m_BadRun := PySem.W.mg_of X G m_BadRun, m_BadJournal := PySem.W.mg_of X G m_BadJournal, m_BadTiers := PySem.W.mg_of X G m_BadTiers, m_NoFile := PySem.W.mg_of X G m_NoFile, m_Stopped := PySem.W.mg_of X G m_Stopped, m_NoSnapshot := PySem.W.mg_of X G m_NoSnapshot, m_BadFile := PySem.W.mg_of X G m_BadFile, ei_BadKey := ei_BadKey, ei_BadValue := ei_BadValue, ei_BadDeed := ei_BadDeed, ei_BadStamp := ei_BadStamp, ei_BadSieve := ei_BadSieve, ei_BadRow := ei_BadRow, xi_BadRun := xi_BadRun, cf_BadRun := cf_BadRun, tb_BadRun := tb_BadRun, xi_BadJournal := xi_BadJournal, cf_BadJournal := cf_BadJournal, tb_BadJournal := tb_BadJournal, xi_BadTiers := xi_BadTiers, cf_BadTiers := cf_BadTiers, tb_BadTiers := tb_BadTiers, xi_NoFile := xi_NoFile, cf_NoFile := cf_NoFile, tb_NoFile := tb_NoFile, xi_Stopped := xi_Stopped, cf_Stopped := cf_Stopped, tb_Stopped := tb_Stopped, xi_NoSnapshot := xi_NoSnapshot, cf_NoSnapshot := cf_NoSnapshot, tb_NoSnapshot := tb_NoSnapshot, xi_BadFile := xi_BadFile, cf_BadFile := cf_BadFile, tb_BadFile := tb_BadFile, one := one, up := up, tb_TierError := tb_TierError, ur_TierError := ur_TierError, uf_TierError := uf_TierError, ug_TierError := ug_TierError, i_BadRun := ⟨_, FIBadRun, bIBadRun⟩, i_BadJournal := ⟨_, FIBadJournal, bIBadJournal⟩, i_BadTiers := ⟨_, FIBadTiers, bIBadTiers⟩, i_NoFile := ⟨_, FINoFile, bINoFile⟩, i_Stopped := ⟨_, FIStopped, bIStopped⟩, i_NoSnapshot := ⟨_, FINoSnapshot, bINoSnapshot⟩, i_BadFile := ⟨_, FIBadFile, bIBadFile⟩ }⟩ }
  exact ⟨_, fun s v => .of_eq rfl, fun base _ _ => ok_law T ⟨F6, PySem.W.mg_of X G a6, b6⟩⟩
theorem walk {l : PySem.W.OpenLaw} {q : Program} {loose : List Str} {XP : (Str → Option Value) → Heap → Prop} {YP : World → Heap → Prop} {d : DefRec} {K : Params → PySem.W.Frag} (hn : l.most = some 63) (hdf : d.params.defaults = [])
    (hY : ∀ (w : World) (h : Heap), YP w h → (K w.params).In h)
    (F : ∀ (w : World) (mg : Str → Option Value) (fa : Addr) (h : Heap), (K w.params).In h → h.Ns mainGlobals mg → mg d.name = some (.ref fa) →
      ∃ fd : FuncData, (∀ (s : Shared) (u : Value), BindsTo s fd ⟨[u], []⟩ [("_law_script", u)]) ∧ ∀ base : Heap, (K w.params).In base → base.Ns mainGlobals mg → FnOk l.prog w (K w.params) mg base CX0 8 fa fd ["_law_script"] (spLaw (K w.params))) :
    PySem.W.WalkO q loose XP YP l.row.toRowW d [] (fun f vs => PySem.call f vs) :=
  L2.walk_of (n := 63) (k := 8) (x := "_law_script") (CX := fun _ => CX0) (sp := fun w => spLaw (K w.params)) hn (by decide) hdf ⟨rfl, by decide, by decide⟩ hY F (fun _ _ a ns hl _ hS => ⟨a, ns, rfl, hS, hl, fun _ => rfl⟩) fun _ _ _ _ _ z => z
end T16
namespace PySem.W.Fast
def tw8398454621668252606 := ()
def tw1792343655120144291 := ()
def tw17501892121001396570 := ()
def tw15903950815783235196 := ()
def tw13365038780659670151 := ()
def tw14347568498670731142 := ()
def tw3124058533220749323 := ()
def tw14382405483815732990 := ()
def tw7071695142471525854 := ()
def tw6623779478564635905 := ()
def tw139050357677716904 := ()
def tw8566106401476282890 := ()
def tw9115889796103717458 := ()
def tw17012052612048126258 := ()
def tw2572206740623674754 := ()
def tw18314543885986929136 := ()
def tw13703362744631229191 := ()
def tw7300722076336170408 := ()
def tw14897737583874279024 := ()
def tw10289753900999908851 := ()
def tw1141179527092759204 := ()
def tw2615222985411460441 := ()
def tw16512917108140290557 := ()
def tw9030204938412866963 := ()
def tw11717954807735948936 := ()
def tw7388309572136264280 := ()
def tw3277983648678462520 := ()
def tw714456260768521283 := ()
def tw1220226989194524214 := ()
def tw15298678592120033661 := ()
def tw6879081440418409047 := ()
def tw10257072106517188259 := ()
def tw4865365281284194913 := ()
def tw1805702225498551331 := ()
def tw15302042617153504655 := ()
def tw13481381162026270029 := ()
def tw18006433566149135166 := ()
def tw10451616423016221918 := ()
def tw4840455993249910201 := ()
def tw14977101416919603427 := ()
def tw11261486927643874557 := ()
def tw6277852448366292969 := ()
def tw9843064617490253175 := ()
def tw11876100070266719223 := ()
def tw700169119005015544 := ()
def tw17345481622117528594 := ()
def tw8547021448207544832 := ()
def tw7791868071057043953 := ()
def tw5237641616492379180 := ()
def tw1475161881308008174 := ()
def tw3089854882060534471 := ()
def tw1237320519243758930 := ()
def tw17301677582144231953 := ()
end PySem.W.Fast
open PySem PySem.W PyProof.Rows
set_option maxRecDepth 100000 in
set_option maxHeartbeats 0 in
theorem PySem.Challenge.cw_tierstore_k16_refusals_holds : PySem.Challenge.rw_tierstore_k16_refusals.Holds := by
  w_on; o_law; k_head; (case hw => w_witness2)
  k_fill
  refine T16.walk (l := PySem.Challenge.rw_tierstore_k16_refusals) rfl rfl (fun w h Y => PySem.W.kIn_of Y) ?F
  case F =>
    intro w mg fa h KX G hmg
    refine' T16.all_mk KX G hmg ?xa1 ?xl1 ?xc1 ?xk1 ?xa2 ?xl2 ?xc2 ?xk2 ?xa3 ?xl3 ?xc3 ?xk3 ?xa4 ?xl4 ?xc4 ?xk4 ?xa5 ?xl5 ?xc5 ?xk5 ?xa6 ?xl6 ?xc6 ?xk6 ?xz0 ?xz1 ?xz2 ?xz3 ?xz4 ?xz5 ?xm_TierError ?xm_BadKey ?xm_BadValue ?xm_BadDeed ?xm_BadStamp ?xm_BadSieve ?xm_BadRow ?xm_BadRun ?xm_BadJournal ?xm_BadTiers ?xm_NoFile ?xm_Stopped ?xm_NoSnapshot ?xm_BadFile ?xai_BadRun ?xli_BadRun ?xci_BadRun ?xki_BadRun ?xai_BadJournal ?xli_BadJournal ?xci_BadJournal ?xki_BadJournal ?xai_BadTiers ?xli_BadTiers ?xci_BadTiers ?xki_BadTiers ?xai_NoFile ?xli_NoFile ?xci_NoFile ?xki_NoFile ?xai_Stopped ?xli_Stopped ?xci_Stopped ?xki_Stopped ?xai_NoSnapshot ?xli_NoSnapshot ?xci_NoSnapshot ?xki_NoSnapshot ?xai_BadFile ?xli_BadFile ?xci_BadFile ?xki_BadFile ?xallc
    (case xa1 => k_is); (case xl1 => k_is); (case xc1 => k_is); (case xk1 => k_is); (case xa2 => k_is); (case xl2 => k_is)
    (case xc2 => k_is); (case xk2 => k_is); (case xa3 => k_is); (case xl3 => k_is); (case xc3 => k_is); (case xk3 => k_is)
    (case xa4 => k_is); (case xl4 => k_is); (case xc4 => k_is); (case xk4 => k_is); (case xa5 => k_is); (case xl5 => k_is)
    (case xc5 => k_is); (case xk5 => k_is); (case xa6 => k_is); (case xl6 => k_is); (case xc6 => k_is); (case xk6 => k_is)
    (case xz0 => k_is); (case xz1 => k_is); (case xz2 => k_is); (case xz3 => k_is); (case xz4 => k_is); (case xz5 => k_is)
    (case xm_TierError => k_is); (case xm_BadKey => k_is); (case xm_BadValue => k_is); (case xm_BadDeed => k_is); (case xm_BadStamp => k_is); (case xm_BadSieve => k_is)
    (case xm_BadRow => k_is); (case xm_BadRun => k_is); (case xm_BadJournal => k_is); (case xm_BadTiers => k_is); (case xm_NoFile => k_is); (case xm_Stopped => k_is)
    (case xm_NoSnapshot => k_is); (case xm_BadFile => k_is); (case xai_BadRun => k_is); (case xli_BadRun => k_is); (case xci_BadRun => k_is); (case xki_BadRun => k_is)
    (case xai_BadJournal => k_is); (case xli_BadJournal => k_is); (case xci_BadJournal => k_is); (case xki_BadJournal => k_is); (case xai_BadTiers => k_is); (case xli_BadTiers => k_is)
    (case xci_BadTiers => k_is); (case xki_BadTiers => k_is); (case xai_NoFile => k_is); (case xli_NoFile => k_is); (case xci_NoFile => k_is); (case xki_NoFile => k_is)
    (case xai_Stopped => k_is); (case xli_Stopped => k_is); (case xci_Stopped => k_is); (case xki_Stopped => k_is); (case xai_NoSnapshot => k_is); (case xli_NoSnapshot => k_is)
    (case xci_NoSnapshot => k_is); (case xki_NoSnapshot => k_is); (case xai_BadFile => k_is); (case xli_BadFile => k_is); (case xci_BadFile => k_is); (case xki_BadFile => k_is)
    (case xallc => kernel_rfl)
