import PyProof.Rows.All
import Wide.All
import OpenK.AllK
import Wide.FinOn
import Lean
import PyProof.EqAt
import PyProof.EqKinds
import PyProof.TupleCall
import PyProof.NeKinds
import PyProof.ListMulRoad
import PyProof.TupleOps
import PyProof.FactsAll.tuple_2
import PyProof.Rows.SeqMore
import KE.KRevSl
import KE.KRevIter
import KE.KIntText
import PyProof.Rows.RuleB_lshift
import PyProof.Rows.StrJoin2
import PyProof.Rows.StrNews2
import PyProof.Rows.FStr
import PyProof.Rows.StrFromFirst
import PyProof.Rows.StrLawsPart
import PyProof.Rows.RegReprOcc
import PyProof.Rows.SetFrom
import PyProof.AutoSeq1
import OpenK.KRaise
import PyProof.Rows.Own
import OpenK.KOwn
import PyProof.ExcBaseAll.ValueError
import KE.KIsAll
import PyProof.ExcInit
import PyProof.ExcClass2
import OpenK.KCls
import OpenK.KWalk
import PyProof.SumAny
import PySem.Challenge.RW_tierstore_k40_hand
set_option Elab.async false
set_option linter.all false
set_option maxRecDepth 100000
namespace L2
open PySem PySem.Spec PyProof.Rows
abbrev Key := Sum Int Str
def keyIs : Key → Value → Bool
  | .inl k, v => Value.isInt k v
  | .inr x, v => Value.isStrOf x v
def keyH (w : World) : Key → Int
  | .inl k => hashInt k
  | .inr x => hashStr w x
theorem keyIs_shape : ∀ {k : Key} {v : Value}, keyIs k v = true → (∃ i t, k = Sum.inl i ∧ v = Value.int i t) ∨ (∃ x t, k = Sum.inr x ∧ v = Value.str x t)
  | .inl i, v, h => by
    obtain ⟨t, e⟩ := Value.isInt_shape (k := i) (v := v) h
    exact .inl ⟨i, t, rfl, e⟩
  | .inr x, v, h => by
    obtain ⟨t, e⟩ := Value.isStrOf_shape (x := x) (v := v) h
    exact .inr ⟨x, t, rfl, e⟩
theorem keyIs_int (i : Int) (t : Tok) : keyIs (.inl i) (.int i t) = true := by simp [keyIs, Value.isInt]
theorem keyIs_str (x : Str) (t : Tok) : keyIs (.inr x) (.str x t) = true := by simp [keyIs, Value.isStrOf]
theorem key_ll (a b : Int) : decide ((Sum.inl a : Key) = Sum.inl b) = (a == b) := by
  by_cases e : a = b
  · subst e; simp
  · have h : ¬ (Sum.inl a : Key) = Sum.inl b := fun q => e (Sum.inl.inj q)
    rw [decide_eq_false h]
    exact (beq_eq_false_iff_ne.mpr e).symm
theorem key_rr (a b : Str) : decide ((Sum.inr a : Key) = Sum.inr b) = decide (a = b) := by
  by_cases e : a = b
  · subst e; simp
  · have h : ¬ (Sum.inr a : Key) = Sum.inr b := fun q => e (Sum.inr.inj q)
    rw [decide_eq_false h, decide_eq_false e]
theorem key_lr (a : Int) (b : Str) : decide ((Sum.inl a : Key) = Sum.inr b) = false := decide_eq_false (fun q => nomatch q)
theorem key_rl (a : Str) (b : Int) : decide ((Sum.inr a : Key) = Sum.inl b) = false := decide_eq_false (fun q => nomatch q)
def mixKind (prog : Program) (w : World) : PySem.KeyKind prog w Key where
  is := keyIs
  hash := keyH w
  inj := fun v a b ha hb => by
    rcases keyIs_shape ha with ⟨i, t, rfl, rfl⟩ | ⟨x, t, rfl, rfl⟩
    · rcases keyIs_shape hb with ⟨j, u, rfl, e⟩ | ⟨y, u, rfl, e⟩
      · injection e with e1 _; rw [e1]
      · exact nomatch e
    · rcases keyIs_shape hb with ⟨j, u, rfl, e⟩ | ⟨y, u, rfl, e⟩
      · exact nomatch e
      · injection e with e1 _; rw [e1]
  byValue := fun k v h => by
    rcases keyIs_shape h with ⟨i, t, rfl, rfl⟩ | ⟨x, t, rfl, rfl⟩ <;> rfl
  pyHash := fun hv h => by
    rcases keyIs_shape hv with ⟨i, t, rfl, rfl⟩ | ⟨x, t, rfl, rfl⟩
    · exact wpAny_pyHash_int h
    · exact wpAny_pyHash_str h
  eqBool := fun hu hv h => by
    rcases keyIs_shape hu with ⟨i, t, rfl, rfl⟩ | ⟨x, t, rfl, rfl⟩
    · rcases keyIs_shape hv with ⟨j, u, rfl, rfl⟩ | ⟨y, u, rfl, rfl⟩
      · rw [key_ll] at h; exact wpAny_eqBool_int h
      · rw [key_lr] at h; exact SeqAt.EqAt.int_str i t y u _ _ _ _ h
    · rcases keyIs_shape hv with ⟨j, u, rfl, rfl⟩ | ⟨y, u, rfl, rfl⟩
      · rw [key_rl] at h; exact SeqAt.EqAt.str_int x t j u _ _ _ _ h
      · rw [key_rr] at h; exact wpAny_eqBool_str h
  «strs» := fun k x t v h => by
    rcases keyIs_shape h with ⟨i, u, rfl, e⟩ | ⟨y, u, rfl, e⟩
    · exact nomatch e
    · injection e with e1 _
      subst e1
      cases v <;> rfl
theorem mixKind_int (prog : Program) (w : World) (i : Int) (t : Tok) : (mixKind prog w).is (.inl i) (.int i t) = true := keyIs_int i t
theorem mixKind_str (prog : Program) (w : World) (x : Str) (t : Tok) : (mixKind prog w).is (.inr x) (.str x t) = true := keyIs_str x t
end L2
namespace L2
open PySem PySem.Spec PyProof.Rows
inductive V where
  | non | bl (b : Bool) | int (i : Int) | str (x : Str) | byt (b : Array UInt8) | flt (b : UInt64) | ref (a : Addr) | ty (n : String)
  deriving DecidableEq
def RelV : V → Value → Prop
  | .non, u => u = Value.none
  | .bl b, u => u = Value.bool b
  | .int i, u => ∃ t, u = Value.int i t
  | .str x, u => ∃ t, u = Value.str x t
  | .byt b, u => ∃ t, u = Value.bytes b t
  | .flt b, u => ∃ t, u = Value.float b t
  | .ref a, u => u = Value.ref a
  | .ty n, u => u = Value.type n
abbrev Vals : List V → List Value → Prop := Paired RelV
theorem Vals.length {xs : List V} {us : List Value} (r : Vals xs us) : xs.length = us.length := Paired.length r
theorem Vals.get : ∀ {xs : List V} {us : List Value} {i : Nat} {x : V}, Vals xs us → xs[i]? = some x → ∃ u, us[i]? = some u ∧ RelV x u
  | _, _, _, _, .nil, e => by simp at e
  | _, _, 0, _, .cons r _, e => by simp at e; subst e; exact ⟨_, rfl, r⟩
  | _, _, i + 1, x, .cons _ t, e => by
    obtain ⟨u, h1, h2⟩ := Vals.get (i := i) (x := x) t (by simpa using e)
    exact ⟨u, by simpa using h1, h2⟩
theorem Vals.set {x : V} {u : Value} (r : RelV x u) : ∀ {xs : List V} {us : List Value} (i : Nat), Vals xs us → Vals (xs.set i x) (us.set i u)
  | _, _, _, .nil => .nil
  | _, _, 0, .cons _ t => .cons r t
  | _, _, i + 1, .cons q t => .cons q (Vals.set r i t)
theorem Vals.append : ∀ {xs ys : List V} {us ws : List Value}, Vals xs us → Vals ys ws → Vals (xs ++ ys) (us ++ ws)
  | _, _, _, _, .nil, s => s
  | _, _, _, _, .cons r t, s => .cons r (Vals.append t s)
theorem Vals.take : ∀ {xs : List V} {us : List Value} (n : Nat), Vals xs us → Vals (xs.take n) (us.take n)
  | _, _, 0, _ => .nil
  | _, _, _ + 1, .nil => .nil
  | _, _, n + 1, .cons r t => .cons r (Vals.take n t)
theorem Vals.drop : ∀ {xs : List V} {us : List Value} (n : Nat), Vals xs us → Vals (xs.drop n) (us.drop n)
  | _, _, 0, r => r
  | _, _, _ + 1, .nil => .nil
  | _, _, n + 1, .cons _ t => Vals.drop n t
theorem Vals.none_of : ∀ {xs : List V} {us : List Value} {i : Nat}, Vals xs us → xs[i]? = none → us[i]? = none := fun {xs us i} r e => by
  have h1 := r.length
  have h2 : xs.length ≤ i := List.getElem?_eq_none_iff.mp e
  exact List.getElem?_eq_none_iff.mpr (by omega)
def RelO : Option V → Option Value → Prop
  | some v, some u => RelV v u
  | none, none => True
  | _, _ => False
def KV {κ : Type} : List (κ × V) → List (κ × Value) → Prop := Paired fun (p : κ × V) (q : κ × Value) => p.1 = q.1 ∧ RelV p.2 q.2
def kV : Key → V
  | .inl i => .int i
  | .inr x => .str x
inductive HO where
  | lst (xs : List V)
  | tup (xs : List V)
  | dK (kvs : List (Key × V)) | dT (kvs : List (List Key × V))
  | set (S : Int → Bool) (n : Nat)
  | ins (C dx : Addr) (fs : List (Str × V))
  | own (x : Addr)
  | xd (fs : List (Str × V))
  | met (f x : Addr)
  | rng (lo hi : Int)
  | frz (o : Obj) (u : HO)
  | tbl (ps : Array Value)
  | ext (φ : Heap → Prop)
abbrev Hp := Addr → Option HO
def upd (H : Hp) (a : Addr) (o : HO) : Hp := fun b => if b = a then some o else H b
theorem upd_same {H : Hp} {a : Addr} {o : HO} : upd H a o a = some o := by unfold upd; rw [if_pos rfl]
theorem upd_ne {H : Hp} {a b : Addr} {o : HO} (h : b ≠ a) : upd H a o b = H b := by unfold upd; rw [if_neg h]
theorem ne_of {H : Hp} {a b : Addr} {o u : HO} (h : H a = some o) (h' : H b = some u) (d : o ≠ u) : a ≠ b := by
  intro e; subst e; rw [h] at h'; exact d (Option.some.inj h')
theorem ne_of_none {H : Hp} {a b : Addr} {o : HO} (h : H a = some o) (h' : H b = none) : a ≠ b := by
  intro e; subst e; rw [h] at h'; cases h'
section
variable (P : Program) (w : World)
def ObjOk (H : Hp) (h : Heap) (a : Addr) : HO → Prop
  | .lst xs => xs.length ≤ sizeLine ∧ ∃ (its : List Value) (n : Nat), Vals xs its ∧ h.get? a = some { cls := .type "list", data := .seq its.toArray n }
  | .tup xs => xs.length ≤ sizeLine ∧ ∃ its : List Value, Vals xs its ∧ IsTup h a its.toArray
  | .dK kvs => kvs.length ≤ sizeLine ∧ (a == sysModules) = false ∧ ∃ vs, KV kvs vs ∧ h.DictOf (mixKind P w) a vs
  | .dT kvs => kvs.length ≤ sizeLine ∧ (a == sysModules) = false ∧ ∃ xs : List (List Key × Addr × Value),
      Paired (fun (p : List Key × V) (q : List Key × Addr × Value) => p.1 = q.1 ∧ H q.2.1 = some (.tup (p.1.map kV)) ∧ RelV p.2 q.2.2) kvs xs ∧
      ∃ o es ep, h.get? a = some o ∧ o.ExactDict ∧ o.data = .dict es ep ∧ es.toList = xs.map (entryOfKey (tupleKind (mixKind P w))) ∧ (xs.map (·.1)).Nodup
  | .set S n => h.SetOf (intKind P w) a S n
  | .ins C dx fs => H dx = some (.own a) ∧ fs.length ≤ 1000 ∧ dx ≠ a ∧ h.get? a = some (PySem.W.instObj C dx) ∧
      ∃ mA, h.Ns1 dx mA ∧ (∀ f, RelO (fs.lookup f) (mA f)) ∧ PySem.Within mA (fs.map (·.1))
  | .own _ => ∃ o, h.get? a = some o
  | .xd fs => ∃ mA, h.Ns1 a mA ∧ ∀ f, RelO (fs.lookup f) (mA f)
  | .rng lo hi => ∃ t u v, h.get? a = some { cls := .type "range", data := .fields #[.int lo t, .int hi u, .int 1 v] }
  | .frz o u => h.get? a = some o ∧ ObjOk H h a u
  | .tbl ps => h.get? a = some { cls := .none, data := .fields ps }
  | .met f x => h.get? a = some (PySem.W.methodObj (.ref f) (.ref x))
  | .ext φ => φ h ∧ (∃ o, h.get? a = some o) ∧ ∀ h1 h2 : Heap, φ h1 → (∀ o, h1.get? a = some o → h2.get? a = some o) → φ h2
def HOk (H : Hp) (h : Heap) : Prop := ∀ a o, H a = some o → ObjOk P w H h a o
end
section
variable {P : Program} {w : World} {H H' : Hp} {h h' : Heap} {a : Addr} {o : HO}
theorem ObjOk.lt (x : ObjOk P w H h a o) : a < h.objs.size := by
  cases o with
  | lst xs => obtain ⟨_, _, _, _, e⟩ := x; exact Heap.lt_size e
  | tup xs => obtain ⟨_, _, _, p⟩ := x; exact p.lt
  | dK kvs => obtain ⟨_, _, _, _, o, _, _, e, _⟩ := x; exact Heap.lt_size e
  | dT kvs => obtain ⟨_, _, _, _, o, _, _, e, _⟩ := x; exact Heap.lt_size e
  | set S n => obtain ⟨o, _, _, _, e, _⟩ := x; exact Heap.lt_size e
  | ins C dx fs => obtain ⟨_, _, _, e, _⟩ := x; exact Heap.lt_size e
  | own y => obtain ⟨_, e⟩ := x; exact Heap.lt_size e
  | xd fs => obtain ⟨_, ⟨_, _, _, e, _⟩, _⟩ := x; exact Heap.lt_size e
  | rng lo hi => obtain ⟨_, _, _, e⟩ := x; exact Heap.lt_size e
  | frz ob u => obtain ⟨e, _⟩ := x; exact Heap.lt_size e
  | tbl ps => exact Heap.lt_size (show h.get? a = some _ from x)
  | met f y => exact Heap.lt_size (show h.get? a = some _ from x)
  | ext φ => obtain ⟨_, ⟨_, e⟩, _⟩ := x; exact Heap.lt_size e
theorem Paired.mapP {α β : Type} {F G : α → β → Prop} : ∀ {l₁ : List α} {l₂ : List β}, Paired F l₁ l₂ → (∀ a b, F a b → G a b) → Paired G l₁ l₂
  | _, _, .nil, _ => .nil
  | _, _, .cons r t, f => .cons (f _ _ r) (Paired.mapP t f)
theorem ObjOk.stay (x : ObjOk P w H h a o) (k : ∀ b u, (b = a ∨ H b = some (.own a)) → h.get? b = some u → h'.get? b = some u)
    (ho : ∀ b, H b = some (.own a) → H' b = some (.own a)) (ht : ∀ b xs, H b = some (.tup xs) → H' b = some (.tup xs)) : ObjOk P w H' h' a o := by
  induction o with
  | lst xs => obtain ⟨z, its, n, r, e⟩ := x; exact ⟨z, its, n, r, k _ _ (.inl rfl) e⟩
  | tup xs => obtain ⟨z, its, r, ob, e, c⟩ := x; exact ⟨z, its, r, ob, k _ _ (.inl rfl) e, c⟩
  | dK kvs => obtain ⟨z, y, vs, r, ob, es, ep, e, c⟩ := x; exact ⟨z, y, vs, r, ob, es, ep, k _ _ (.inl rfl) e, c⟩
  | dT kvs =>
    obtain ⟨z, y, xs, r, ob, es, ep, e, c⟩ := x
    exact ⟨z, y, xs, Paired.mapP r fun p q z => ⟨z.1, ht _ _ z.2.1, z.2.2⟩, ob, es, ep, k _ _ (.inl rfl) e, c⟩
  | set S n => obtain ⟨ob, es, ep, t, e, c⟩ := x; exact ⟨ob, es, ep, t, k _ _ (.inl rfl) e, c⟩
  | ins C dx fs =>
    obtain ⟨d, z, ne, e, mA, ⟨od, es, ep, e2, c⟩, r⟩ := x
    exact ⟨ho _ d, z, ne, k _ _ (.inl rfl) e, mA, ⟨od, es, ep, k _ _ (.inr d) e2, c⟩, r⟩
  | own y => obtain ⟨ob, e⟩ := x; exact ⟨ob, k _ _ (.inl rfl) e⟩
  | xd fs => obtain ⟨mA, ⟨od, es, ep, e, c⟩, r⟩ := x; exact ⟨mA, ⟨od, es, ep, k _ _ (.inl rfl) e, c⟩, r⟩
  | rng lo hi => obtain ⟨t, u, v, e⟩ := x; exact ⟨t, u, v, k _ _ (.inl rfl) e⟩
  | frz ob u ih => obtain ⟨e, q⟩ := x; exact ⟨k _ _ (.inl rfl) e, ih q⟩
  | tbl ps =>
    have e : h.get? a = some { cls := .none, data := .fields ps } := x
    show h'.get? a = some { cls := .none, data := .fields ps }
    exact k a _ (.inl rfl) e
  | met f y =>
    have e : h.get? a = some (PySem.W.methodObj (.ref f) (.ref y)) := x
    show h'.get? a = some (PySem.W.methodObj (.ref f) (.ref y))
    exact k a _ (.inl rfl) e
  | ext φ => obtain ⟨p, ⟨o, e⟩, st⟩ := x; exact ⟨st _ _ p fun o q => k _ _ (.inl rfl) q, ⟨o, k _ _ (.inl rfl) e⟩, st⟩
theorem HOk.lt (x : HOk P w H h) (e : H a = some o) : a < h.objs.size := (x a o e).lt
theorem HOk.fresh (x : HOk P w H h) (e : h.objs.size ≤ a) : H a = none := by
  cases q : H a with
  | none => rfl
  | some u => exact absurd (Nat.lt_of_lt_of_le (x.lt q) e) (Nat.lt_irrefl _)
theorem HOk.kept (x : HOk P w H h) (k : ∀ b u, h.get? b = some u → h'.get? b = some u) : HOk P w H h' := fun a o e =>
  (x a o e).stay (fun b u _ q => k b u q) (fun _ q => q) fun _ _ q => q
theorem HOk.laid (x : HOk P w H h) (k : ∀ b u, h.get? b = some u → h'.get? b = some u) (hp : h.objs.size ≤ a) (new : ObjOk P w (upd H a o) h' a o) : HOk P w (upd H a o) h' := fun b u e => by
  have hn := x.fresh hp
  by_cases hb : b = a
  · subst hb; rw [upd_same] at e; cases e; exact new
  · rw [upd_ne hb] at e
    exact (x b u e).stay (fun c v _ q => k c v q) (fun c q => by rw [upd_ne (ne_of_none q hn)]; exact q) fun c xs q => by rw [upd_ne (ne_of_none q hn)]; exact q
end
def Rd (H : Hp) (a : Addr) (u : HO) : Prop := H a = some u ∨ ∃ o, H a = some (.frz o u)
theorem Rd.of {H : Hp} {a : Addr} {u : HO} (h : H a = some u) : Rd H a u := .inl h
theorem Rd.ok {P : Program} {w : World} {H : Hp} {h : Heap} {a : Addr} {u : HO} (r : Rd H a u) (x : HOk P w H h) : ObjOk P w H h a u := by
  rcases r with r | ⟨o, r⟩
  · exact x a u r
  · obtain ⟨_, q⟩ := x a _ r
    exact q
def Mut : Option HO → Prop
  | some (.lst _) => True
  | some (.dK _) => True
  | some (.dT _) => True
  | some (.set _ _) => True
  | some (.ins _ _ _) => True
  | some (.ext _) => True
  | _ => False
section
variable {P : Program} {w : World} {H : Hp} {h h' : Heap} {x e : Addr} {o' : HO}
theorem HOk.write (ok : HOk P w H h) (mu : Mut (H x)) (he : e = x ∨ H e = some (.own x)) (k : ∀ b u, b ≠ e → h.get? b = some u → h'.get? b = some u) (heo : ∃ u, h'.get? e = some u)
    (new : ObjOk P w (upd H x o') h' x o') : HOk P w (upd H x o') h' := fun b u q => by
  have nown : ∀ c y, H c = some (.own y) → c ≠ x := fun c y r z => by subst z; rw [r] at mu; exact mu
  have ntup : ∀ c xs, H c = some (.tup xs) → c ≠ x := fun c xs r z => by subst z; rw [r] at mu; exact mu
  by_cases hb : b = x
  · subst hb; rw [upd_same] at q; cases q; exact new
  · rw [upd_ne hb] at q
    by_cases hbe : b = e
    · have q' : H b = some (.own x) := by
        rcases he with z | z
        · exact absurd (hbe.trans z) hb
        · rw [hbe]; exact z
      rw [q] at q'; cases q'
      obtain ⟨v, hv⟩ := heo
      exact ⟨v, by rw [hbe]; exact hv⟩
    · refine (ok b u q).stay (fun c v hc r => k c v ?_ r) (fun c r => by rw [upd_ne (nown c b r)]; exact r) fun c xs r => by rw [upd_ne (ntup c xs r)]; exact r
      rcases hc with rfl | hc
      · exact hbe
      · rintro rfl
        rcases he with z | z
        · exact nown c b hc z
        · rw [hc] at z; cases z; exact hb rfl
end
structure Un (fs ex : List Addr) (H H' : Hp) (h h' : Heap) : Prop where
  keep : ∀ b o, h.get? b = some o → H b = none → b ∉ fs → b ∉ ex → h'.get? b = some o
  slot : ∀ b o, h.get? b = some o → H b = none → b ∈ fs → b ∉ ex → ∃ sl, h'.get? b = some { o with slots := sl }
  free : ∀ b o, h.get? b = some o → H b = none → b ∉ ex → H' b = none
  there : ∀ b o, h.get? b = some o → b ∉ ex → ∃ o', h'.get? b = some o'
  tups : ∀ b xs, H b = some (.tup xs) → H' b = some (.tup xs)
  frzs : ∀ b o u, H b = some (.frz o u) → H' b = some (.frz o u)
  tbls : ∀ b ps, H b = some (.tbl ps) → ∃ more, H' b = some (.tbl (ps ++ more))
section
variable {fs fs' ex ex' : List Addr} {H H1 H2 : Hp} {h h1 h2 h' : Heap} {a x e : Addr} {o : HO}
theorem Un.any (u : Un fs ex H H1 h h1) {b : Addr} {ob : Obj} (q : h.get? b = some ob) (n : H b = none) (hx : b ∉ ex) : ∃ sl, h1.get? b = some { ob with slots := sl } := by
  by_cases hb : b ∈ fs
  · exact u.slot b ob q n hb hx
  · exact ⟨ob.slots, u.keep b ob q n hb hx⟩
theorem Un.trans (a : Un fs ex H H1 h h1) (b : Un fs ex H1 H2 h1 h2) : Un fs ex H H2 h h2 where
  keep := fun c ob q n hc hx => b.keep c ob (a.keep c ob q n hc hx) (a.free c ob q n hx) hc hx
  slot := fun c ob q n hc hx => by
    obtain ⟨sl, e1⟩ := a.slot c ob q n hc hx
    obtain ⟨sl', e2⟩ := b.slot c _ e1 (a.free c ob q n hx) hc hx
    exact ⟨sl', e2⟩
  free := fun c ob q n hx => by
    obtain ⟨o', e1⟩ := a.there c ob q hx
    exact b.free c o' e1 (a.free c ob q n hx) hx
  there := fun c ob q hx => by
    obtain ⟨o', e1⟩ := a.there c ob q hx
    exact b.there c o' e1 hx
  tups := fun c xs q => b.tups c xs (a.tups c xs q)
  frzs := fun c ob xs q => b.frzs c ob xs (a.frzs c ob xs q)
  tbls := fun c ps q => by
    obtain ⟨m1, e1⟩ := a.tbls c ps q
    obtain ⟨m2, e2⟩ := b.tbls c _ e1
    exact ⟨m1 ++ m2, by rw [e2, Array.append_assoc]⟩
theorem Un.kept (k : ∀ b u, h.get? b = some u → h'.get? b = some u) : Un fs ex H H h h' :=
  ⟨fun b ob q _ _ _ => k b ob q, fun b ob q _ _ _ => ⟨ob.slots, k b ob q⟩, fun _ _ _ n _ => n, fun b ob q _ => ⟨ob, k b ob q⟩, fun _ _ q => q, fun _ _ _ q => q, fun _ ps q => ⟨#[], by rw [q]; simp⟩⟩
theorem Un.refl : Un fs ex H H h h := Un.kept fun _ _ q => q
theorem Un.laid (k : ∀ b u, h.get? b = some u → h'.get? b = some u) (hp : h.objs.size ≤ a) (hn : H a = none) : Un fs ex H (upd H a o) h h' where
  keep := fun b u q _ _ _ => k b u q
  slot := fun b u q _ _ _ => ⟨u.slots, k b u q⟩
  free := fun b u q n _ => by rw [upd_ne (Nat.ne_of_lt (Nat.lt_of_lt_of_le (Heap.lt_size q) hp))]; exact n
  there := fun b u q _ => ⟨u, k b u q⟩
  tups := fun b xs q => by rw [upd_ne (ne_of_none q hn)]; exact q
  frzs := fun b u xs q => by rw [upd_ne (ne_of_none q hn)]; exact q
  tbls := fun b ps q => ⟨#[], by rw [upd_ne (ne_of_none q hn), q]; simp⟩
theorem Un.write (mu : Mut (H x)) (he : e = x ∨ H e = some (.own x)) (k : ∀ b u, b ≠ e → h.get? b = some u → h'.get? b = some u) (heo : ∃ u, h'.get? e = some u) : Un fs ex H (upd H x o) h h' := by
  have hx : ∀ b, H b = none → b ≠ x := fun b n z => by subst z; rw [n] at mu; exact mu
  have hb : ∀ b, H b = none → b ≠ e := fun b n z => by
    subst z
    rcases he with r | r
    · exact hx b n r
    · rw [n] at r; cases r
  have hm : ∀ b u, H b = some u → ¬ Mut (some u) → b ≠ x := fun b u q nm z => by subst z; rw [q] at mu; exact nm mu
  refine ⟨fun b u q n _ _ => k b u (hb b n) q, fun b u q n _ _ => ⟨u.slots, k b u (hb b n) q⟩, fun b u q n _ => by rw [upd_ne (hx b n)]; exact n, fun b u q _ => ?_,
    fun b xs q => by rw [upd_ne (hm b _ q fun z => z)]; exact q, fun b u xs q => by rw [upd_ne (hm b _ q fun z => z)]; exact q, fun b ps q => ⟨#[], by rw [upd_ne (hm b _ q fun z => z), q]; simp⟩⟩
  by_cases hbe : b = e
  · subst hbe; exact heo
  · exact ⟨u, k b u hbe q⟩
theorem Un.mono (u : Un fs ex H H1 h h1) (hs : ∀ b ∈ fs, b ∈ fs') (hx : ∀ b ∈ ex, b ∈ ex') : Un fs' ex' H H1 h h1 :=
  ⟨fun b ob q n hb he => u.keep b ob q n (fun z => hb (hs b z)) fun z => he (hx b z), fun _ _ q n _ he => u.any q n fun z => he (hx _ z), fun b ob q n he => u.free b ob q n fun z => he (hx b z), fun b ob q he => u.there b ob q fun z => he (hx b z), u.tups, u.frzs, u.tbls⟩
end
def trk (h : Heap) (H : Hp) : List Addr := (List.range h.objs.size).filter fun a => (H a).isSome
def hidT (h : Heap) (H : Hp) : Heap := PySem.W.hideAll h (trk h H)
theorem hidT_size (h : Heap) (H : Hp) : (hidT h H).objs.size = h.objs.size := PySem.W.hideAll_size _ _
theorem hidT_get {h : Heap} {H : Hp} {b : Addr} {o : Obj} (e : h.get? b = some o) (n : H b = none) : (hidT h H).get? b = some o :=
  PySem.W.hideAll_get _ e fun hm => by
    have q : (H b).isSome = true := (List.mem_filter.mp hm).2
    rw [n] at q; simp at q
theorem of_hidT {h : Heap} {H : Hp} {b : Addr} {o : Obj} (e : (hidT h H).get? b = some o) : h.get? b = some o ∧ H b = none := by
  have e' : h.get? b = some o := PySem.W.of_hideAll (trk h H) e
  refine ⟨e', ?_⟩
  cases q : H b with
  | none => rfl
  | some x =>
    have hm : b ∈ trk h H := List.mem_filter.mpr ⟨List.mem_range.mpr (Heap.lt_size e'), by simp [q]⟩
    have z : (hidT h H).get? b = none := PySem.W.hideAll_none (trk h H) hm
    rw [z] at e; cases e
def allNews (g h : Heap) (L : Addr) : List (Addr × Obj) := (List.range h.objs.size).filterMap fun a => if a = L ∨ (g.get? a).isSome = true then none else (h.get? a).map fun o => (a, o)
theorem mem_allNews {g h : Heap} {L a : Addr} {o : Obj} (h1 : a ≠ L) (h2 : g.get? a = none) (h3 : h.get? a = some o) : (a, o) ∈ allNews g h L :=
  List.mem_filterMap.mpr ⟨a, List.mem_range.mpr (Heap.lt_size h3), by simp [h1, h2, h3]⟩
theorem of_mem_allNews {g h : Heap} {L : Addr} {p : Addr × Obj} (hp : p ∈ allNews g h L) : p.1 ≠ L ∧ g.get? p.1 = none ∧ h.get? p.1 = some p.2 := by
  obtain ⟨b, _, e⟩ := List.mem_filterMap.mp hp
  split at e
  · cases e
  · rename_i hn
    cases q : h.get? b with
    | none => rw [q] at e; simp at e
    | some u =>
      rw [q] at e
      simp only [Option.map_some, Option.some.injEq] at e
      subst e
      refine ⟨fun z => hn (.inl z), ?_, q⟩
      show g.get? b = none
      cases r : g.get? b with
      | none => rfl
      | some v => exact (hn (.inr (by simp [r]))).elim
def rest (g h : Heap) (L d : Addr) : List (Addr × Obj) := (allNews g h L).filter fun p => decide (p.1 ≠ d)
theorem news_all {g h : Heap} {L : Addr} : News g L h (allNews g h L) := fun p hp => let ⟨a, b, c⟩ := of_mem_allNews hp; ⟨c, a, b⟩
end L2
namespace L2
open PySem PySem.Spec PyProof.Rows
structure Mod (K : PySem.W.Frag) (mg : Str → Option Value) (base : Heap) : Prop where
  kin : K.In base
  glob : base.Ns mainGlobals mg
  blt : ∃ mb, base.Ns builtinsNs mb ∧ ∀ x : Str, x ≠ "__name__" → mb x = bootBuiltins x
  nolimit : base.NoLimit
structure Cx where
  prog : Program
  w : World
  K : PySem.W.Frag
  mg : Str → Option Value
  base : Heap
  A : Around
  N : List Str
  s₀ : Shared
  H₀ : Hp
  env : Env
  outer : List Env
  stack : List Env
  ex : List Addr
  fn : Str → Bool
  calm : Bool
  pn : List (Addr × Obj)
  xe : Value → Shared → Prop
def frs (l : List Env) : List Addr := l.filterMap (·.frame)
abbrev Cx.fs (X : Cx) : List Addr := frs X.outer
def Vis (sc : Scope) (x : Str) : Prop := sc.names.lookup x = some .local ∨ sc.names.lookup x = some .cell ∨ sc.names.lookup x = some .free
def Loc (sc : Scope) (x : Str) : Prop := sc.names.lookup x = some .local ∨ sc.names.lookup x = some .cell
def Look (env : Env) (h : Heap) (m : Str → Option Value) (x : Str) (u : Value) : Prop :=
  (env.kindOf x = some .local ∧ m x = some u) ∨ ((env.kindOf x = some .cell ∨ env.kindOf x = some .free) ∧ ∃ c, env.cells.lookup x = some c ∧ h.IsCell c (some u))
structure Cx.Ok (X : Cx) : Prop where
  mod : Mod X.K X.mg X.base
  kind : X.env.scope.kind = .function
  glob : X.env.globals = mainGlobals
  blt : X.env.builtins = builtinsNs
  above : X.s₀.heap.objs.size ≤ X.env.locals
  inj : ∀ x y c, X.env.cells.lookup x = some c → X.env.cells.lookup y = some c → x = y
  has : ∀ x, (X.env.kindOf x = some .cell ∨ X.env.kindOf x = some .free) → ∃ c, X.env.cells.lookup x = some c
  cab : ∀ x c, X.fn x = true → X.env.cells.lookup x = some c → X.s₀.heap.objs.size ≤ c
  hd : X.calm = true → X.A.handled = none
  frames : X.A.frames = some X.stack
  stk : X.stack = X.outer ∨ (X.stack = X.env :: X.outer ∧ X.env.frame = some X.env.locals)
  exf : ∀ b ∈ X.ex, b ≠ X.env.locals ∧ ∀ x c, X.env.cells.lookup x = some c → c ≠ b
  bs : ∀ b o, X.base.get? b = some o → X.s₀.heap.get? b = some o ∧ X.H₀ b = none
  bsz : X.base.objs.size ≤ X.s₀.heap.objs.size
  noex : ∀ b o, X.base.get? b = some o → b ∉ X.ex
  exfs : ∀ b ∈ X.ex, b ∉ X.fs
  funs : X.s₀.heap.FunFrames X.base X.outer
  frf : ∀ b ∈ X.fs, X.H₀ b = none
structure Inv (X : Cx) (pins : List (Addr × Obj)) (σ : List (Option V)) (H : Hp) (s : Shared) : Prop where
  ok : X.Ok
  os : s.os = X.s₀.os
  bare : AllBare s.gens
  base : Un X.fs X.ex X.H₀ H X.s₀.heap s.heap
  loc : ∃ m, s.heap.Ns X.env.locals m ∧ ∀ (i : Nat) (x : Str) (v : V), X.N[i]? = some x → σ[i]? = some (some v) → Vis X.env.scope x → ∃ u, RelV v u ∧ Look X.env s.heap m x u
  cell : ∀ x c, X.env.cells.lookup x = some c → ∃ v, s.heap.IsCell c v
  free : H X.env.locals = none
  freeC : ∀ x c, X.env.cells.lookup x = some c → H c = none
  pin : ∀ p ∈ X.pn ++ pins, s.heap.get? p.1 = some p.2 ∧ H p.1 = none ∧ p.1 ≠ X.env.locals ∧ p.1 ∉ X.fs ∧ ∀ v, p.2.data ≠ .cell v
  hok : HOk X.prog X.w H s.heap
  len : σ.length = X.N.length
section
variable {X : Cx} {pins : List (Addr × Obj)} {σ : List (Option V)} {H H' : Hp} {s : Shared} {h' : Heap}
theorem Cx.Ok.nofr (ok : X.Ok) {b : Addr} {o : Obj} (e : X.base.get? b = some o) : b ∉ X.fs := fun hb => by
  have := (ok.funs.mem hb).1
  rw [e] at this; cases this
theorem Inv.bs (I : Inv X pins σ H s) : ∀ b o, X.base.get? b = some o → s.heap.get? b = some o ∧ H b = none := fun b o e =>
  ⟨I.base.keep b o (I.ok.bs b o e).1 (I.ok.bs b o e).2 (I.ok.nofr e) (I.ok.noex b o e), I.base.free b o (I.ok.bs b o e).1 (I.ok.bs b o e).2 (I.ok.noex b o e)⟩
theorem Inv.bk (I : Inv X pins σ H s) : ∀ b o, X.base.get? b = some o → s.heap.get? b = some o := fun b o e => (I.bs b o e).1
theorem Inv.mod (I : Inv X pins σ H s) : Mod X.K X.mg X.base := I.ok.mod
theorem Inv.kIn (I : Inv X pins σ H s) : X.K.In s.heap := I.ok.mod.kin.keeps I.bk
theorem Inv.nolimit (I : Inv X pins σ H s) : s.heap.NoLimit := I.ok.mod.nolimit.keeps I.bk
theorem Inv.fr (I : Inv X pins σ H s) : ∃ m, Fr X.base X.env.locals s.heap m :=
  let ⟨m, hn, _⟩ := I.loc
  ⟨m, hn, I.bk, Nat.le_trans I.ok.bsz I.ok.above⟩
theorem Inv.lt (I : Inv X pins σ H s) : X.env.locals < s.heap.objs.size := let ⟨_, hn, _⟩ := I.loc; hn.lt
theorem Inv.sz (I : Inv X pins σ H s) : X.s₀.heap.objs.size ≤ s.heap.objs.size := Nat.le_trans I.ok.above (Nat.le_of_lt I.lt)
theorem Inv.nofs (I : Inv X pins σ H s) {a : Addr} (h : s.heap.objs.size ≤ a) : a ∉ X.fs := fun hb => by
  obtain ⟨_, o, ho, _⟩ := I.ok.funs.mem hb
  exact absurd (Nat.lt_of_lt_of_le (Heap.lt_size ho) (Nat.le_trans I.sz h)) (Nat.lt_irrefl _)
theorem Inv.cne (I : Inv X pins σ H s) : ∀ x c, X.env.cells.lookup x = some c → c ≠ X.env.locals := fun x c e z => by
  obtain ⟨v, o, ho, hd⟩ := I.cell x c e
  obtain ⟨m, ⟨o', es, ep, ho', hd', _⟩, _⟩ := I.loc
  rw [z, ho'] at ho; cases ho; rw [hd'] at hd; cases hd
theorem Inv.funs (I : Inv X pins σ H s) : s.heap.FunFrames X.base X.outer := by
  have all : ∀ (l : List Env), (∀ b ∈ frs l, b ∈ X.fs) → X.s₀.heap.FunFrames X.base l → s.heap.FunFrames X.base l := by
    intro l
    induction l with
    | nil => intro _ _; trivial
    | cons env r ih =>
      intro hs hl
      obtain ⟨hk, ⟨L, o, hf, hn, ho, hd⟩, hr⟩ := hl
      have hL : L ∈ X.fs := hs L (by unfold frs; rw [List.filterMap_cons, hf]; exact List.mem_cons_self)
      obtain ⟨sl, e⟩ := I.base.slot L o ho (I.ok.frf L hL) hL fun z => I.ok.exfs L z hL
      exact ⟨hk, ⟨L, _, hf, hn, e, hd⟩, ih (fun b hb => hs b (by unfold frs; rw [List.filterMap_cons, hf]; exact List.mem_cons_of_mem _ hb)) hr⟩
  exact all X.outer (fun _ hb => hb) I.ok.funs
theorem Inv.stack (I : Inv X pins σ H s) : s.heap.FunFrames X.base X.stack := by
  rcases I.ok.stk with e | ⟨e, hf⟩
  · rw [e]; exact I.funs
  · rw [e]
    obtain ⟨m, hn, _⟩ := I.loc
    refine .cons (by rw [I.ok.kind]; decide) hf hn ?_ I.funs
    exact Heap.get?_none_of_le (Nat.le_trans I.ok.bsz I.ok.above)
theorem Inv.stkSub (I : Inv X pins σ H s) : ∀ b ∈ frs X.stack, b ∈ X.env.locals :: X.fs := fun b hb => by
  rcases I.ok.stk with e | ⟨e, hf⟩
  · rw [e] at hb; exact List.mem_cons_of_mem _ hb
  · rw [e] at hb
    unfold frs at hb
    rw [List.filterMap_cons, hf] at hb
    exact hb
theorem Inv.stkFree (I : Inv X pins σ H s) : ∀ b ∈ frs X.stack, H b = none := fun b hb => by
  rcases List.mem_cons.mp (I.stkSub b hb) with e | hb
  · rw [e]; exact I.free
  · obtain ⟨_, o, ho, _⟩ := I.ok.funs.mem hb
    exact I.base.free b o ho (I.ok.frf b hb) fun z => I.ok.exfs b z hb
theorem Inv.step {g' : Array GenState} {t' : Nat} {d' : Drawn} {ch : List Addr} (I : Inv X pins σ H s)
    (hch : ∀ b ∈ ch, (b ∈ X.ex ∨ X.s₀.heap.objs.size ≤ b) ∧ b ≠ X.env.locals ∧ (∀ x c, X.env.cells.lookup x = some c → c ≠ b) ∧ ∀ p ∈ X.pn ++ pins, p.1 ≠ b)
    (keep : ∀ b o, b ≠ X.env.locals → b ∉ X.fs → b ∉ ch → s.heap.get? b = some o → H b = none → h'.get? b = some o)
    (slot : ∀ b o, b ≠ X.env.locals → b ∈ X.fs → b ∉ ch → s.heap.get? b = some o → H b = none → ∃ sl, h'.get? b = some { o with slots := sl }) (free : ∀ b o, b ∉ ch → s.heap.get? b = some o → H b = none → H' b = none)
    (there : ∀ b o, b ∉ ch → s.heap.get? b = some o → ∃ o', h'.get? b = some o')
    (tups : ∀ b xs, H b = some (.tup xs) → H' b = some (.tup xs)) (frzs : ∀ b o u, H b = some (.frz o u) → H' b = some (.frz o u)) (tbls : ∀ b ps, H b = some (.tbl ps) → ∃ more, H' b = some (.tbl (ps ++ more)))
    (ns : ∀ m, s.heap.Ns X.env.locals m → h'.Ns X.env.locals m) (hok : HOk X.prog X.w H' h') (hg : AllBare g') :
    Inv X pins σ H' { s with heap := h', gens := g', drawn := d', toks := t' } := by
  have neL : ∀ b o, X.s₀.heap.get? b = some o → b ≠ X.env.locals := fun b o e => Nat.ne_of_lt (Nat.lt_of_lt_of_le (Heap.lt_size e) I.ok.above)
  have neC : ∀ b o, X.s₀.heap.get? b = some o → b ∉ X.ex → b ∉ ch := fun b o e hx hb => by
    rcases (hch b hb).1 with z | z
    · exact hx z
    · exact absurd (Nat.lt_of_lt_of_le (Heap.lt_size e) z) (Nat.lt_irrefl _)
  have cellK : ∀ x c, X.env.cells.lookup x = some c → ∀ v, s.heap.IsCell c v → h'.IsCell c v := fun x c e v ⟨o, ho, hd⟩ => by
    have nch : c ∉ ch := fun z => (hch c z).2.2.1 x c e rfl
    by_cases hc : c ∈ X.fs
    · obtain ⟨sl, q⟩ := slot c o (I.cne x c e) hc nch ho (I.freeC x c e)
      exact ⟨_, q, hd⟩
    · exact ⟨o, keep c o (I.cne x c e) hc nch ho (I.freeC x c e), hd⟩
  refine ⟨I.ok, I.os, hg, ⟨fun b o e n hb hx => ?_, fun b o e n hb hx => ?_, fun b o e n hx => ?_, fun b o e hx => ?_, fun b xs e => tups b xs (I.base.tups b xs e), fun b o xs e => frzs b o xs (I.base.frzs b o xs e), fun b ps e => ?_⟩, ?_, fun x c e => ?_, ?_, fun x c e => ?_, fun p hp => ?_, hok, I.len⟩
  · exact keep b o (neL b o e) hb (neC b o e hx) (I.base.keep b o e n hb hx) (I.base.free b o e n hx)
  · obtain ⟨sl, e1⟩ := I.base.slot b o e n hb hx
    obtain ⟨sl', e2⟩ := slot b _ (neL b o e) hb (neC b o e hx) e1 (I.base.free b o e n hx)
    exact ⟨sl', e2⟩
  · obtain ⟨o', e1⟩ := I.base.there b o e hx
    exact free b o' (neC b o e hx) e1 (I.base.free b o e n hx)
  · obtain ⟨o', e1⟩ := I.base.there b o e hx
    exact there b o' (neC b o e hx) e1
  · obtain ⟨m1, e1⟩ := I.base.tbls b ps e
    obtain ⟨m2, e2⟩ := tbls b _ e1
    exact ⟨m1 ++ m2, by rw [e2, Array.append_assoc]⟩
  · obtain ⟨m, hn, hl⟩ := I.loc
    refine ⟨m, ns m hn, fun i x v e1 e2 e3 => ?_⟩
    obtain ⟨u, r, l⟩ := hl i x v e1 e2 e3
    refine ⟨u, r, ?_⟩
    rcases l with l | ⟨k, c, e, z⟩
    · exact .inl l
    · exact .inr ⟨k, c, e, cellK x c e _ z⟩
  · obtain ⟨v, z⟩ := I.cell x c e
    exact ⟨v, cellK x c e v z⟩
  · obtain ⟨m, ⟨o, _, _, ho, _⟩, _⟩ := I.loc
    exact free _ o (fun z => (hch _ z).2.1 rfl) ho I.free
  · obtain ⟨v, o, ho, hd⟩ := I.cell x c e
    exact free c o (fun z => (hch c z).2.2.1 x c e rfl) ho (I.freeC x c e)
  · obtain ⟨e, n, ne, nf, d⟩ := I.pin p hp
    have nch : p.1 ∉ ch := fun z => (hch p.1 z).2.2.2 p hp rfl
    exact ⟨keep p.1 p.2 ne nf nch e n, free p.1 p.2 nch e n, ne, nf, d⟩
theorem Inv.un {t' : Nat} (I : Inv X pins σ H s) (u : Un X.fs [] H H' s.heap h') (hok : HOk X.prog X.w H' h') : Inv X pins σ H' { s with heap := h', toks := t' } := by
  obtain ⟨m, ⟨o, es, ep, ho, r⟩, _⟩ := id I.loc
  obtain ⟨sl, hL⟩ := u.any ho I.free (by simp)
  exact I.step (g' := s.gens) (d' := s.drawn) (ch := []) (fun _ z => nomatch z) (fun b o _ hb _ e n => u.keep b o e n hb (by simp)) (fun b o _ hb _ e n => u.slot b o e n hb (by simp)) (fun b o _ e n => u.free b o e n (by simp)) (fun b o _ e => u.there b o e (by simp)) u.tups u.frzs u.tbls (fun m' hm => by
    obtain ⟨o', es', ep', ho', r'⟩ := hm
    rw [ho] at ho'; cases ho'
    exact ⟨_, es', ep', hL, r'⟩) hok I.bare
theorem Inv.call {g' : Array GenState} {t' : Nat} {d' : Drawn} {ch : List Addr} (I : Inv X pins σ H s) (u : Un (frs X.stack) ch H H' s.heap h') (hok : HOk X.prog X.w H' h') (hg : AllBare g')
    (hch : ∀ b ∈ ch, (b ∈ X.ex ∨ X.s₀.heap.objs.size ≤ b) ∧ b ≠ X.env.locals ∧ (∀ x c, X.env.cells.lookup x = some c → c ≠ b) ∧ ∀ p ∈ X.pn ++ pins, p.1 ≠ b) :
    Inv X pins σ H' { s with heap := h', gens := g', drawn := d', toks := t' } := by
  obtain ⟨m, ⟨o, es, ep, ho, r⟩, _⟩ := id I.loc
  obtain ⟨sl, hL⟩ := u.any ho I.free fun z => (hch _ z).2.1 rfl
  exact I.step (ch := ch) hch (fun b o hL hb hc e n => u.keep b o e n (fun z => (List.mem_cons.mp (I.stkSub b z)).elim hL hb) hc) (fun b o _ _ hc e n => u.any e n hc) (fun b o hc e n => u.free b o e n hc) (fun b o hc e => u.there b o e hc) u.tups u.frzs u.tbls (fun m' hm => by
    obtain ⟨o', es', ep', ho', r'⟩ := hm
    rw [ho] at ho'; cases ho'
    exact ⟨_, es', ep', hL, r'⟩) hok hg
theorem Inv.turned {t' : Nat} {it : Addr} (I : Inv X pins σ H s) (k : ∀ b o, b ≠ it → s.heap.get? b = some o → h'.get? b = some o) (hn : H it = none) (hL : it ≠ X.env.locals)
    (h1 : it ∈ X.ex ∨ X.s₀.heap.objs.size ≤ it) (h2 : ∀ x c, X.env.cells.lookup x = some c → c ≠ it) (h3 : ∀ p ∈ X.pn ++ pins, p.1 ≠ it) : Inv X pins σ H { s with heap := h', toks := t' } := by
  have nit : ∀ b u, H b = some u → b ≠ it := fun b u e z => by rw [z, hn] at e; cases e
  refine I.step (g' := s.gens) (d' := s.drawn) (ch := [it]) (fun b hb => ?_) (fun b o _ _ hc e _ => k b o (fun z => hc (by simp [z])) e) (fun b o _ _ hc e _ => ⟨o.slots, k b o (fun z => hc (by simp [z])) e⟩) (fun _ _ _ _ n => n)
    (fun b o hc e => ⟨o, k b o (fun z => hc (by simp [z])) e⟩) (fun _ _ e => e) (fun _ _ _ e => e) (fun b ps e => ⟨#[], by rw [e]; simp⟩) (fun m hm => ?_) (fun b u e => ?_) I.bare
  · have e : b = it := by simpa using hb
    subst e
    exact ⟨h1, hL, h2, h3⟩
  · obtain ⟨o, es, ep, ho, r⟩ := hm
    exact ⟨o, es, ep, k _ o (Ne.symm hL) ho, r⟩
  · refine (I.hok b u e).stay (fun c v hc q => k c v ?_ q) (fun _ q => q) fun _ _ q => q
    rcases hc with z | z
    · rw [z]; exact nit b u e
    · exact nit c _ z
theorem Inv.tok (I : Inv X pins σ H s) (t : Nat) : Inv X pins σ H { s with toks := t } := I.un (h' := s.heap) (t' := t) Un.refl I.hok
theorem Inv.kept {t' : Nat} (I : Inv X pins σ H s) (k : ∀ b u, s.heap.get? b = some u → h'.get? b = some u) : Inv X pins σ H { s with heap := h', toks := t' } := I.un (Un.kept k) (I.hok.kept k)
theorem Inv.laid {a : Addr} {o : HO} {t' : Nat} (I : Inv X pins σ H s) (k : ∀ b u, s.heap.get? b = some u → h'.get? b = some u) (hp : s.heap.objs.size ≤ a) (new : ObjOk X.prog X.w (upd H a o) h' a o) :
    Inv X pins σ (upd H a o) { s with heap := h', toks := t' } := I.un (Un.laid k hp (I.hok.fresh hp)) (I.hok.laid k hp new)
theorem Inv.write {x e : Addr} {o : HO} {t' : Nat} (I : Inv X pins σ H s) (mu : Mut (H x)) (he : e = x ∨ H e = some (.own x)) (k : ∀ b u, b ≠ e → s.heap.get? b = some u → h'.get? b = some u) (heo : ∃ u, h'.get? e = some u)
    (new : ObjOk X.prog X.w (upd H x o) h' x o) : Inv X pins σ (upd H x o) { s with heap := h', toks := t' } := I.un (Un.write mu he k heo) (I.hok.write mu he k heo new)
theorem Inv.pins_of {pins' : List (Addr × Obj)} (I : Inv X pins σ H s) (h : ∀ p ∈ pins', s.heap.get? p.1 = some p.2 ∧ H p.1 = none ∧ p.1 ≠ X.env.locals ∧ p.1 ∉ X.fs ∧ ∀ v, p.2.data ≠ .cell v) : Inv X pins' σ H s :=
  ⟨I.ok, I.os, I.bare, I.base, I.loc, I.cell, I.free, I.freeC, fun p hp => (List.mem_append.mp hp).elim (fun z => I.pin p (List.mem_append_left _ z)) (h p), I.hok, I.len⟩
theorem nodup_ix {N : List Str} (hN : N.Nodup) {i j : Nat} {x : Str} (a : N[i]? = some x) (b : N[j]? = some x) : i = j := by
  obtain ⟨h1, e1⟩ := List.getElem?_eq_some_iff.mp a
  obtain ⟨h2, e2⟩ := List.getElem?_eq_some_iff.mp b
  exact (List.getElem_inj hN).mp (e1.trans e2.symm)
theorem store_ok2 {M : Model} {A : Around} {E : Value → Shared → Prop} {i : Nat} {x : Str} {v : V} {u : Value} {Q : Unit → Shared → Prop} (I : Inv X pins σ H s) (hN : X.N.Nodup) (hi : X.N[i]? = some x) (hx : Loc X.env.scope x) (r : RelV v u)
    (h : ∀ s', Inv X pins (σ.set i (some v)) H s' → (∃ a, Heap.SameBut a s.heap s'.heap ∧ (a = X.env.locals ∨ X.env.cells.lookup x = some a)) → Q () s') (hf : X.fn x = true ∨ X.env.scope.names.lookup x = some .local := by first | exact .inl rfl | exact .inr rfl | assumption) : wpAny M A (storeName X.env x u) Q E s := by
  obtain ⟨m, hn, hl⟩ := id I.loc
  have hcls : (X.env.scope.kind == .class || (X.env.scope.kind == .module && X.env.locals != X.env.globals)) = false := by rw [I.ok.kind]; rfl
  have hiσ : i < σ.length := by rw [I.len]; exact (List.getElem?_eq_some_iff.mp hi).1
  have cne := I.cne
  have tracked : ∀ {a : Addr} {h' : Heap}, (∃ o, s.heap.get? a = some o ∧ H a = none) → Heap.SameBut a s.heap h' → HOk X.prog X.w H h' := fun {a h'} ha hs b ob e => by
    obtain ⟨_, _, hfree⟩ := ha
    refine (I.hok b ob e).stay (fun c w' hc q => (hs.2 c ?_).trans q) (fun _ q => q) fun _ _ q => q
    rintro rfl
    rcases hc with rfl | hc
    · rw [hfree] at e; cases e
    · rw [hfree] at hc; cases hc
  rcases hx with hk | hk
  · refine wpAny_storeName_local hk hn (fun h' hn' hs => ?_) hcls
    obtain ⟨oL, _, _, hoL, _⟩ := id hn
    refine h _ ⟨I.ok, I.os, I.bare, ⟨fun b o e n hb hx => ?_, fun b o e n hb hx => ?_, I.base.free, fun b o e hx => ?_, I.base.tups, I.base.frzs, I.base.tbls⟩, ⟨_, hn', fun j y v' e1 e2 e3 => ?_⟩, fun y c e => ?_, I.free, I.freeC, fun p hp => ?_, tracked ⟨oL, hoL, I.free⟩ hs, by simpa using I.len⟩ ⟨_, hs, .inl rfl⟩
    · exact (hs.2 b (Nat.ne_of_lt (Nat.lt_of_lt_of_le (Heap.lt_size e) I.ok.above))).trans (I.base.keep b o e n hb hx)
    · obtain ⟨sl, e1⟩ := I.base.slot b o e n hb hx
      exact ⟨sl, (hs.2 b (Nat.ne_of_lt (Nat.lt_of_lt_of_le (Heap.lt_size e) I.ok.above))).trans e1⟩
    · obtain ⟨o', e1⟩ := I.base.there b o e hx
      exact ⟨o', (hs.2 b (Nat.ne_of_lt (Nat.lt_of_lt_of_le (Heap.lt_size e) I.ok.above))).trans e1⟩
    · by_cases hj : j = i
      · subst hj
        rw [hi] at e1; cases e1
        rw [List.getElem?_set_self hiσ] at e2
        cases e2
        exact ⟨u, r, .inl ⟨hk, by simp⟩⟩
      · rw [List.getElem?_set_ne (Ne.symm hj)] at e2
        obtain ⟨u', r', q⟩ := hl j y v' e1 e2 e3
        refine ⟨u', r', ?_⟩
        rcases q with ⟨k, e⟩ | ⟨k, c, e, z⟩
        · refine .inl ⟨k, ?_⟩
          have : y ≠ x := fun e => hj (nodup_ix hN e1 (e ▸ hi))
          simp [this, e]
        · exact .inr ⟨k, c, e, z.sameBut hs (cne y c e)⟩
    · obtain ⟨w', z⟩ := I.cell y c e
      exact ⟨w', z.sameBut hs (cne y c e)⟩
    · obtain ⟨e, n, ne, nf, d⟩ := I.pin p hp
      exact ⟨(hs.2 p.1 ne).trans e, n, ne, nf, d⟩
  · have hfn : X.fn x = true := by
      rcases hf with z | z
      · exact z
      · rw [z] at hk; cases hk
    obtain ⟨c, hc⟩ := I.ok.has x (.inl hk)
    obtain ⟨w', z⟩ := I.cell x c hc
    refine wpAny_storeName_cell I.ok.kind hk hc z (fun h' hc' hs => ?_)
    obtain ⟨oc, hoc, hocd⟩ := id z
    refine h { s with heap := h' } ⟨I.ok, I.os, I.bare, ⟨fun b o e n hb hx => ?_, fun b o e n hb hx => ?_, I.base.free, fun b o e hx => ?_, I.base.tups, I.base.frzs, I.base.tbls⟩, ⟨m, hn.sameBut hs (Ne.symm (cne x c hc)), fun j y v' e1 e2 e3 => ?_⟩, fun y c' e => ?_, I.free, I.freeC, fun p hp => ?_, tracked ⟨oc, hoc, I.freeC x c hc⟩ hs, by simpa using I.len⟩ ⟨c, hs, .inr hc⟩
    · exact (hs.2 b (Nat.ne_of_lt (Nat.lt_of_lt_of_le (Heap.lt_size e) (I.ok.cab x c hfn hc)))).trans (I.base.keep b o e n hb hx)
    · obtain ⟨sl, e1⟩ := I.base.slot b o e n hb hx
      exact ⟨sl, (hs.2 b (Nat.ne_of_lt (Nat.lt_of_lt_of_le (Heap.lt_size e) (I.ok.cab x c hfn hc)))).trans e1⟩
    · obtain ⟨o', e1⟩ := I.base.there b o e hx
      exact ⟨o', (hs.2 b (Nat.ne_of_lt (Nat.lt_of_lt_of_le (Heap.lt_size e) (I.ok.cab x c hfn hc)))).trans e1⟩
    · by_cases hj : j = i
      · subst hj
        rw [hi] at e1; cases e1
        rw [List.getElem?_set_self hiσ] at e2
        cases e2
        exact ⟨u, r, .inr ⟨.inl hk, c, hc, hc'⟩⟩
      · rw [List.getElem?_set_ne (Ne.symm hj)] at e2
        obtain ⟨u', r', q⟩ := hl j y v' e1 e2 e3
        refine ⟨u', r', ?_⟩
        rcases q with q | ⟨k, c', e, z'⟩
        · exact .inl q
        · refine .inr ⟨k, c', e, z'.sameBut hs ?_⟩
          rintro rfl
          exact hj (nodup_ix hN e1 (I.ok.inj _ _ _ e hc ▸ hi))
    · by_cases hcc : c' = c
      · subst hcc; exact ⟨_, hc'⟩
      · obtain ⟨w2, z2⟩ := I.cell y c' e
        exact ⟨w2, z2.sameBut hs hcc⟩
    · obtain ⟨e, n, ne, nf, d⟩ := I.pin p hp
      refine ⟨(hs.2 p.1 ?_).trans e, n, ne, nf, d⟩
      intro q
      rw [q, hoc] at e
      have q' : oc = p.2 := Option.some.inj e
      exact d w' (by rw [← q']; exact hocd)
theorem store_ok {M : Model} {A : Around} {E : Value → Shared → Prop} {i : Nat} {x : Str} {v : V} {u : Value} {Q : Unit → Shared → Prop} (I : Inv X pins σ H s) (hN : X.N.Nodup) (hi : X.N[i]? = some x) (hx : Loc X.env.scope x) (r : RelV v u)
    (h : ∀ s', Inv X pins (σ.set i (some v)) H s' → Q () s') (hf : X.fn x = true ∨ X.env.scope.names.lookup x = some .local := by first | exact .inl rfl | exact .inr rfl | assumption) : wpAny M A (storeName X.env x u) Q E s :=
  store_ok2 I hN hi hx r (fun s' I' _ => h s' I') hf
theorem Inv.call' {s' : Shared} {ch : List Addr} (I : Inv X pins σ H s) (ho : s'.os = s.os) (u : Un (frs X.stack) ch H H' s.heap s'.heap) (hok : HOk X.prog X.w H' s'.heap) (hg : AllBare s'.gens)
    (hch : ∀ b ∈ ch, (b ∈ X.ex ∨ X.s₀.heap.objs.size ≤ b) ∧ b ≠ X.env.locals ∧ (∀ x c, X.env.cells.lookup x = some c → c ≠ b) ∧ ∀ p ∈ X.pn ++ pins, p.1 ≠ b) : Inv X pins σ H' s' := by
  obtain ⟨h', g', d', t', o'⟩ := s'
  have e : o' = s.os := ho
  subst e
  exact I.call (g' := g') (t' := t') (d' := d') u hok hg hch
end
abbrev XK := Value → Option Addr → Hp → Prop
abbrev St := List (Option V)
abbrev VK := V → Hp → Prop
abbrev TE := St → Hp → VK → Prop
abbrev TT := St → Hp → (Bool → Hp → Prop) → Prop
abbrev TA := St → Hp → (List V → Hp → Prop) → Prop
structure Ends where
  nx : St → Hp → Prop
  rt : VK
  bk : St → Hp → Prop := fun _ _ => False
  ct : St → Hp → Prop := fun _ _ => False
abbrev TS := Ends → St → Hp → Prop
def EP (X : Cx) (pins : List (Addr × Obj)) (σ : St) (Q : VK) (u : Value) (s' : Shared) : Prop := ∃ v H', Inv X pins σ H' s' ∧ RelV v u ∧ Q v H'
def TP (X : Cx) (pins : List (Addr × Obj)) (σ : St) (Q : Bool → Hp → Prop) (b : Bool) (s' : Shared) : Prop := ∃ H', Inv X pins σ H' s' ∧ Q b H'
def AP (X : Cx) (pins : List (Addr × Obj)) (σ : St) (Q : List V → Hp → Prop) (us : List Value) (s' : Shared) : Prop := ∃ vs H', Inv X pins σ H' s' ∧ Vals vs us ∧ Q vs H'
def SP (X : Cx) (pins : List (Addr × Obj)) (D : Ends) (f : Flow) (s' : Shared) : Prop :=
  match f with
  | .next => ∃ σ' H', Inv X pins σ' H' s' ∧ D.nx σ' H'
  | .brk => ∃ σ' H', Inv X pins σ' H' s' ∧ D.bk σ' H'
  | .cont => ∃ σ' H', Inv X pins σ' H' s' ∧ D.ct σ' H'
  | .ret u => ∃ v σ' H', Inv X pins σ' H' s' ∧ RelV v u ∧ D.rt v H'
def PE (X : Cx) (e : Expr) (t : TE) : Prop :=
  ∀ (pins : List (Addr × Obj)) (s : Shared) (σ : St) (H : Hp) (Q : VK), Inv X pins σ H s → t σ H Q → wpAny (model X.prog X.w) X.A (eval e X.env) (EP X pins σ Q) X.xe s
def PT (X : Cx) (e : Expr) (t : TT) : Prop :=
  ∀ (pins : List (Addr × Obj)) (s : Shared) (σ : St) (H : Hp) (Q : Bool → Hp → Prop), Inv X pins σ H s → t σ H Q → wpAny (model X.prog X.w) X.A (isTrue e X.env (eval e X.env)) (TP X pins σ Q) X.xe s
def PW (X : Cx) (e : Expr) (t : TT) : Prop :=
  ∀ (whole : Sem Value) (pins : List (Addr × Obj)) (s : Shared) (σ : St) (H : Hp) (Q : Bool → Hp → Prop), Inv X pins σ H s → t σ H Q → wpAny (model X.prog X.w) X.A (isTrue e X.env whole) (TP X pins σ Q) X.xe s
theorem PW.pt {X : Cx} {e : Expr} {t : TT} (h : PW X e t) : PT X e t := h _
def PA (X : Cx) (es : List Expr) (t : TA) : Prop :=
  ∀ (pos : Pos) (pins : List (Addr × Obj)) (s : Shared) (σ : St) (H : Hp) (Q : List V → Hp → Prop), Inv X pins σ H s → t σ H Q → wpAny (model X.prog X.w) X.A (spliced (backTo pos (starEach es X.env))) (AP X pins σ Q) X.xe s
def PS (X : Cx) (st : Stmt) (t : TS) : Prop :=
  ∀ (pins : List (Addr × Obj)) (s : Shared) (σ : St) (H : Hp) (D : Ends), Inv X pins σ H s → t D σ H → wpAny (model X.prog X.w) X.A (exec st X.env) (SP X pins D) X.xe s
def PSs (X : Cx) (st : List Stmt) (t : TS) : Prop :=
  ∀ (pins : List (Addr × Obj)) (s : Shared) (σ : St) (H : Hp) (D : Ends), Inv X pins σ H s → t D σ H → wpAny (model X.prog X.w) X.A (execs st X.env) (SP X pins D) X.xe s
theorem thn {α : Type} {t : Sem α} {Q Q' : α → Shared → Prop} {M : Model} {A : Around} {E : Value → Shared → Prop} {s : Shared} (h : wpAny M A t Q E s) (hQ : ∀ a s, Q a s → Q' a s) : wpAny M A t Q' E s := wpAny_mono h hQ fun _ _ x => x
end L2
namespace L2
open PySem PySem.Spec PyProof.Rows
section
variable {X : Cx}
def tVar (i : Nat) : TE := fun σ H Q => ∃ v, σ[i]? = some (some v) ∧ Q v H
def tC (v : V) : TE := fun _ H Q => Q v H
theorem pe_var {i : Nat} {x : Str} {pos : Pos} (hN : X.N[i]? = some x) (hv : Vis X.env.scope x) (hd : (x == ("__debug__" : Str)) = false := by decide) (hcd : (x == ("__classdict__" : Str)) = false := by decide) : PE X (.Name x pos) (tVar i) := by
  intro pins s σ H Q I h
  obtain ⟨v, e, h⟩ := h
  obtain ⟨m, hn, hl⟩ := I.loc
  obtain ⟨u, r, l⟩ := hl i x v hN e hv
  have fin : EP X pins σ Q u s := ⟨v, H, I, r, h⟩
  rcases l with ⟨hk, hm⟩ | ⟨hk, c, hc, hcell⟩
  · exact wpAny_Name (wpAny_loadName_local I.ok.kind hk hn hm fin) hd
  · rcases hk with hk | hk
    · exact wpAny_Name (wpAny_loadName_cell I.ok.kind hk hc hcell fin) hd
    · exact wpAny_Name (wpAny_loadName_free I.ok.kind hk hc hcell fin hcd) hd
theorem pe_int {i j pos} : PE X (.Constant (.int i) j pos) (tC (.int i)) := fun _ _ _ H _ I h => wpAny_Constant_int ⟨.int i, H, I.tok _, ⟨_, rfl⟩, h⟩
theorem pe_bl {b j pos} : PE X (.Constant (.bool b) j pos) (tC (.bl b)) := fun _ _ _ H _ I h => Constant_bool ⟨.bl b, H, I, rfl, h⟩
theorem pe_non {j pos} : PE X (.Constant .none j pos) (tC .non) := fun _ _ _ H _ I h => Constant_none ⟨.non, H, I, rfl, h⟩
theorem pe_str {x j pos} : PE X (.Constant (.str x) j pos) (tC (.str x)) := fun _ _ _ H _ I h => Calls.Constant_str ⟨.str x, H, I.tok _, ⟨_, rfl⟩, h⟩
def Gl (X : Cx) (x : Str) : Prop := X.env.kindOf x = some .globalImplicit
theorem ld_glob {E : Value → Shared → Prop} {pins : List (Addr × Obj)} {s : Shared} {σ : St} {H : Hp} {x : Str} {u : Value} {pos : Pos} {Q : Value → Shared → Prop} (I : Inv X pins σ H s) (hg : Gl X x) (hm : X.mg x = some u) (h : Q u s)
    (hd : (x == ("__debug__" : Str)) = false := by decide) : wpAny (model X.prog X.w) X.A (eval (.Name x pos) X.env) Q E s :=
  Calls.Name_function_global I.ok.kind hg (Calls.loadGlobal_global (by rw [I.ok.glob]; exact I.mod.glob.keeps I.bk) hm h) hd
theorem ld_blt {E : Value → Shared → Prop} {pins : List (Addr × Obj)} {s : Shared} {σ : St} {H : Hp} {x : Str} {u : Value} {pos : Pos} {Q : Value → Shared → Prop} (I : Inv X pins σ H s) (hg : Gl X x) (hm : X.mg x = none) (hv : bootBuiltins x = some u) (h : Q u s)
    (hn : x ≠ "__name__" := by decide) (hd : (x == ("__debug__" : Str)) = false := by decide) : wpAny (model X.prog X.w) X.A (eval (.Name x pos) X.env) Q E s := by
  obtain ⟨mb, h1, h2⟩ := I.mod.blt
  exact Calls.Name_function_global I.ok.kind hg (Calls.loadGlobal_builtin (by rw [I.ok.glob]; exact I.mod.glob.keeps I.bk) hm (by rw [I.ok.blt]; exact h1.keeps I.bk) ((h2 x hn).trans hv) h) hd
theorem pe_glob {x : Str} {v : V} {u : Value} {pos : Pos} (hg : Gl X x) (hm : X.mg x = some u) (r : RelV v u) (hd : (x == ("__debug__" : Str)) = false := by decide) : PE X (.Name x pos) (tC v) :=
  fun _ _ _ H _ I h => ld_glob I hg hm ⟨v, H, I, r, h⟩ hd
theorem pe_bltn {x : Str} {v : V} {u : Value} {pos : Pos} (hg : Gl X x) (hm : X.mg x = none) (hv : bootBuiltins x = some u) (r : RelV v u) (hn : x ≠ "__name__" := by decide) (hd : (x == ("__debug__" : Str)) = false := by decide) : PE X (.Name x pos) (tC v) :=
  fun _ _ _ H _ I h => ld_blt I hg hm hv ⟨v, H, I, r, h⟩ hn hd
variable {a b : Expr} {ta tb : TE} {pos : Pos}
def tB (t : TE) : TT := fun σ H Q => t σ H fun x H1 => ∃ c, x = .bl c ∧ Q c H1
theorem pt_val {e : Expr} {t : TE} (h : PE X e t) (he : ∀ whole, isTrue e X.env whole = (do let v ← whole; standAt e.pos; holding [v] (truthy v)) := by intro _; rfl) : PT X e (tB t) := by
  intro pins s σ H Q I hw
  refine isTrue_plain (thn (h pins s σ H _ I hw) fun v s1 ⟨x, H1, I1, r1, q1⟩ => ?_) (he _)
  obtain ⟨d, rfl, q⟩ := q1
  cases r1
  exact wpAny_truthy_bool ⟨H1, I1, q⟩
variable {tA tB' : TT} {rest : List Expr}
def tAnd (t u : TT) : TT := fun σ H Q => t σ H fun c H1 => if c = true then u σ H1 Q else Q false H1
def tOr (t u : TT) : TT := fun σ H Q => t σ H fun c H1 => if c = true then Q true H1 else u σ H1 Q
def tNot (t : TT) : TT := fun σ H Q => t σ H fun c H1 => Q (!c) H1
theorem pw_and1 (ha : PT X a tA) : PW X (.BoolOp .And [a] pos) tA := by
  intro wh pins s σ H Q I h
  refine isTrue_and (thn (ha pins s σ H Q I h) fun c s1 e => ?_)
  cases c with
  | true => exact isTrue_and_nil e
  | false => exact e
theorem pw_or1 (ha : PT X a tA) : PW X (.BoolOp .Or [a] pos) tA := by
  intro wh pins s σ H Q I h
  refine isTrue_or (thn (ha pins s σ H Q I h) fun c s1 e => ?_)
  cases c with
  | false => exact isTrue_or_nil e
  | true => exact e
theorem pw_and (ha : PT X a tA) (hb : PW X (.BoolOp .And (b :: rest) pos) tB') : PW X (.BoolOp .And (a :: b :: rest) pos) (tAnd tA tB') := by
  intro wh pins s σ H Q I h
  refine isTrue_and (thn (ha pins s σ H _ I h) fun c s1 ⟨H1, I1, q1⟩ => ?_)
  cases c with
  | true => exact hb wh pins s1 σ H1 Q I1 q1
  | false => exact ⟨H1, I1, q1⟩
theorem pw_or (ha : PT X a tA) (hb : PW X (.BoolOp .Or (b :: rest) pos) tB') : PW X (.BoolOp .Or (a :: b :: rest) pos) (tOr tA tB') := by
  intro wh pins s σ H Q I h
  refine isTrue_or (thn (ha pins s σ H _ I h) fun c s1 ⟨H1, I1, q1⟩ => ?_)
  cases c with
  | true => exact ⟨H1, I1, q1⟩
  | false => exact hb wh pins s1 σ H1 Q I1 q1
theorem pt_not (ha : PT X a tA) : PT X (.UnaryOp .Not a pos) (tNot tA) := by
  intro pins s σ H Q I h
  exact isTrue_not (ha pins s σ H (fun c H1 => Q (!c) H1) I h)
def tAndV (ta tb : TE) : TE := fun σ H Q => ta σ H fun x H1 => ∃ c, x = .bl c ∧ if c = true then tb σ H1 Q else Q (.bl false) H1
theorem pe_one {op} {t : TE} (h : PE X a t) : PE X (.BoolOp op [a] pos) t := fun pins s σ H Q I hw => BoolOp_one (h pins s σ H Q I hw)
theorem pe_and (ha : PE X a ta) (hb : PE X (.BoolOp .And (b :: rest) pos) tb) : PE X (.BoolOp .And (a :: b :: rest) pos) (tAndV ta tb) := by
  intro pins s σ H Q I h
  refine BoolOp_and (thn (ha pins s σ H _ I h) fun v s1 ⟨x, H1, I1, r1, q1⟩ => ?_)
  obtain ⟨c, rfl, q1⟩ := q1
  cases r1
  refine wpAny_truthy_bool ?_
  cases c with
  | true => exact hb pins s1 σ H1 Q I1 q1
  | false => exact ⟨.bl false, H1, I1, rfl, q1⟩
end
end L2
namespace L2
open PySem PySem.Spec PyProof.Rows
def SqL (K : PySem.W.Frag) (H : Hp) (a : Addr) (xs : List V) : Prop :=
  Rd H a (.lst xs) ∨
    ∃ (o : Obj) (its : Array Value) (n : Nat), K.lookup a = some o ∧ o.cls = .type "list" ∧ o.dict = none ∧ o.data = .seq its n ∧ its.size ≤ sizeLine ∧ Vals xs its.toList
def SqT (K : PySem.W.Frag) (H : Hp) (a : Addr) (xs : List V) : Prop :=
  Rd H a (.tup xs) ∨
    ∃ (o : Obj) (its : Array Value) (n : Nat), K.lookup a = some o ∧ o.cls = .type "tuple" ∧ o.data = .seq its n ∧ its.size ≤ sizeLine ∧ Vals xs its.toList
def absV : Value → Option V
  | .none => some .non
  | .bool b => some (.bl b)
  | .int i _ => some (.int i)
  | .str x _ => some (.str x)
  | .bytes b _ => some (.byt b)
  | .float b _ => some (.flt b)
  | .ref a => some (.ref a)
  | .type n => some (.ty n)
  | _ => none
theorem RelV.abs {x : V} {u : Value} (r : RelV x u) : absV u = some x := by
  cases x with
  | non => cases r; rfl
  | bl _ => cases r; rfl
  | int _ => obtain ⟨t, rfl⟩ := r; rfl
  | str _ => obtain ⟨t, rfl⟩ := r; rfl
  | byt _ => obtain ⟨t, rfl⟩ := r; rfl
  | flt _ => obtain ⟨t, rfl⟩ := r; rfl
  | ref _ => cases r; rfl
  | ty _ => cases r; rfl
theorem RelV.inj {x y : V} {u : Value} (r : RelV x u) (q : RelV y u) : x = y := Option.some.inj (r.abs.symm.trans q.abs)
theorem Vals.inj : ∀ {xs ys : List V} {us : List Value}, Vals xs us → Vals ys us → xs = ys
  | _, _, _, .nil, .nil => rfl
  | _, _, _, .cons r t, .cons r' t' => by rw [r.inj r', Vals.inj t t']
section
variable {X : Cx} {pins : List (Addr × Obj)} {σ : St} {H : Hp} {s : Shared} {a : Addr} {xs ys : List V}
theorem SqL.of {K : PySem.W.Frag} (h : H a = some (.lst xs)) : SqL K H a xs := .inl (.inl h)
theorem SqT.of {K : PySem.W.Frag} (h : H a = some (.tup xs)) : SqT K H a xs := .inl (.inl h)
theorem Inv.list (I : Inv X pins σ H s) (h : SqL X.K H a xs) : ∃ its : List Value, Vals xs its ∧ PlainL s.heap a its.toArray ∧ xs.length ≤ sizeLine := by
  rcases h with h | ⟨o, its, n, hk, hc, hd, hs, hz, r⟩
  · obtain ⟨z, its, n, r, e⟩ := h.ok I.hok
    exact ⟨its, r, ⟨_, n, e, rfl, rfl, rfl⟩, z⟩
  · refine ⟨its.toList, r, ⟨o, n, I.kIn a o hk, hc, hd, by simpa using hs⟩, ?_⟩
    have e := r.length
    simp only [Array.length_toList] at e
    omega
theorem Inv.tuple (I : Inv X pins σ H s) (h : SqT X.K H a xs) : ∃ its : List Value, Vals xs its ∧ IsTup s.heap a its.toArray ∧ xs.length ≤ sizeLine := by
  rcases h with h | ⟨o, its, n, hk, hc, hs, hz, r⟩
  · obtain ⟨z, its, r, p⟩ := h.ok I.hok
    exact ⟨its, r, p, z⟩
  · refine ⟨its.toList, r, ⟨o, I.kIn a o hk, hc, n, by simpa using hs⟩, ?_⟩
    have e := r.length
    simp only [Array.length_toList] at e
    omega
theorem Inv.list_inj (I : Inv X pins σ H s) (h : SqL X.K H a xs) (h' : SqL X.K H a ys) : xs = ys := by
  obtain ⟨its, r, ⟨o, n, e, _, _, d⟩, _⟩ := I.list h
  obtain ⟨its', r', ⟨o', n', e', _, _, d'⟩, _⟩ := I.list h'
  rw [e] at e'; cases e'
  rw [d] at d'
  injection d' with d1 _
  have : its = its' := by simpa using congrArg Array.toList d1
  subst this
  exact r.inj r'
end
abbrev Cx.wish (X : Cx) (E : Value → Shared → Prop) : Cx := { X with xe := E }
abbrev Cx.nox (X : Cx) : Cx := X.wish fun _ _ => False
theorem Cx.Ok.wish {X : Cx} (ok : X.Ok) (E : Value → Shared → Prop) : (X.wish E).Ok :=
  ⟨ok.mod, ok.kind, ok.glob, ok.blt, ok.above, ok.inj, ok.has, ok.cab, ok.hd, ok.frames, ok.stk, ok.exf, ok.bs, ok.bsz, ok.noex, ok.exfs, ok.funs, ok.frf⟩
theorem Cx.Ok.unwish {X : Cx} {E : Value → Shared → Prop} (ok : (X.wish E).Ok) : X.Ok :=
  ⟨ok.mod, ok.kind, ok.glob, ok.blt, ok.above, ok.inj, ok.has, ok.cab, ok.hd, ok.frames, ok.stk, ok.exf, ok.bs, ok.bsz, ok.noex, ok.exfs, ok.funs, ok.frf⟩
section
variable {X : Cx} {pins : List (Addr × Obj)} {σ : St} {H : Hp} {s : Shared} {E : Value → Shared → Prop}
theorem Inv.wish (I : Inv X pins σ H s) (E : Value → Shared → Prop) : Inv (X.wish E) pins σ H s := ⟨I.ok.wish E, I.os, I.bare, I.base, I.loc, I.cell, I.free, I.freeC, I.pin, I.hok, I.len⟩
theorem Inv.unwish (I : Inv (X.wish E) pins σ H s) : Inv X pins σ H s := ⟨I.ok.unwish, I.os, I.bare, I.base, I.loc, I.cell, I.free, I.freeC, I.pin, I.hok, I.len⟩
theorem SP.unwish {D : Ends} {f : Flow} {s' : Shared} (h : SP (X.wish E) pins D f s') : SP X pins D f s' := by
  cases f with
  | next => obtain ⟨σ', H', I, q⟩ := h; exact ⟨σ', H', I.unwish, q⟩
  | brk => obtain ⟨σ', H', I, q⟩ := h; exact ⟨σ', H', I.unwish, q⟩
  | cont => obtain ⟨σ', H', I, q⟩ := h; exact ⟨σ', H', I.unwish, q⟩
  | ret u => obtain ⟨v, σ', H', I, r, q⟩ := h; exact ⟨v, σ', H', I.unwish, r, q⟩
theorem PE.nox {e : Expr} {t : TE} (h : PE X.nox e t) : PE X e t := fun pins s σ H Q I hw =>
  wpAny_mono (h pins s σ H Q (I.wish _) hw) (fun _ _ ⟨v, H', I', r, q⟩ => ⟨v, H', I'.unwish, r, q⟩) fun _ _ z => False.elim z
theorem PT.nox {e : Expr} {t : TT} (h : PT X.nox e t) : PT X e t := fun pins s σ H Q I hw =>
  wpAny_mono (h pins s σ H Q (I.wish _) hw) (fun _ _ ⟨H', I', q⟩ => ⟨H', I'.unwish, q⟩) fun _ _ z => False.elim z
theorem PSs.nox {st : List Stmt} {t : TS} (h : PSs X.nox st t) : PSs X st t := fun pins s σ H D I hw =>
  wpAny_mono (h pins s σ H D (I.wish _) hw) (fun _ _ q => q.unwish) fun _ _ z => False.elim z
end
section
variable {X : Cx} {st : Stmt} {rest : List Stmt} {t u : TS} {e : Expr} {te : TE} {pos : Pos}
def tNext : TS := fun D σ H => D.nx σ H
def tSeq (t u : TS) : TS := fun D σ H => t { D with nx := u D } σ H
theorem pss_nil : PSs X [] tNext := fun _ _ σ H _ I h => wpAny_execs_nil ⟨σ, H, I, h⟩
theorem pss_cons (h1 : PS X st t) (h2 : PSs X rest u) : PSs X (st :: rest) (tSeq t u) := by
  intro pins s σ H D I h
  refine wpAny_execs_cons (thn (h1 pins s σ H { D with nx := u D } I h) fun f s1 q => ?_)
  cases f with
  | next =>
    obtain ⟨σ', H', I', q⟩ := q
    exact h2 pins s1 σ' H' D I' q
  | ret v => exact q
  | brk => exact q
  | cont => exact q
theorem pss_one (h1 : PS X st t) : PSs X [st] t := by
  intro pins s σ H D I h
  refine wpAny_execs_cons (thn (h1 pins s σ H D I h) fun f s1 q => ?_)
  cases f with
  | next => exact wpAny_execs_nil q
  | ret v => exact q
  | brk => exact q
  | cont => exact q
theorem Inv.quiet {pins : List (Addr × Obj)} {σ : St} {H : Hp} {s : Shared} (I : Inv X pins σ H s) : interactive X.env = false := by simp [interactive, I.ok.kind]
def tDrop (te : TE) : TS := fun D σ H => te σ H fun _ H1 => D.nx σ H1
theorem ps_expr (he : PE X e te) (hs : swapsWith e none pos.line X.env = pure false := by rfl) : PS X (.Expr e pos) (tDrop te) := by
  intro pins s σ H D I h
  exact wpAny_Expr_any (thn (he pins s σ H _ I h) fun v s1 ⟨x, H1, I1, r1, q1⟩ => ⟨σ, H1, I1, q1⟩) I.quiet hs
def tRet (te : TE) : TS := fun D σ H => te σ H D.rt
theorem ps_ret (he : PE X e te) : PS X (.Return (some e) pos) (tRet te) := by
  intro pins s σ H D I h
  exact wpAny_Return_some (thn (he pins s σ H _ I h) fun v s1 ⟨x, H1, I1, r1, q1⟩ => ⟨x, σ, H1, I1, r1, q1⟩)
def tIfS (c : TT) (t u : TS) : TS := fun D σ H => c σ H fun b H1 => if b = true then t D σ H1 else u D σ H1
theorem ps_if {c : Expr} {a b : List Stmt} {tc : TT} (hc : PT X c tc) (ha : PSs X a t) (hb : PSs X b u) : PS X (.If c a b pos) (tIfS tc t u) := by
  intro pins s σ H D I h
  refine wpAny_If (thn (hc pins s σ H _ I h) fun d s1 ⟨H1, I1, q1⟩ => ?_)
  cases d with
  | true => exact ha pins s1 σ H1 D I1 q1
  | false => exact hb pins s1 σ H1 D I1 q1
end
abbrev TG := V → St → Hp → (St → Hp → Prop) → Prop
abbrev TGs := List V → St → Hp → (St → Hp → Prop) → Prop
def PG (X : Cx) (target : Expr) (t : TG) : Prop :=
  ∀ (pins : List (Addr × Obj)) (s : Shared) (σ : St) (H : Hp) (v : V) (u : Value) (Q : St → Hp → Prop), Inv X pins σ H s → RelV v u → t v σ H Q →
    wpAny (model X.prog X.w) X.A (assign target X.env u) (fun _ s' => ∃ σ' H', Inv X pins σ' H' s' ∧ Q σ' H') X.xe s
def PGs (X : Cx) (ts : List Expr) (t : TGs) : Prop :=
  ∀ (pins : List (Addr × Obj)) (s : Shared) (σ : St) (H : Hp) (vs : List V) (us : List Value) (Q : St → Hp → Prop), Inv X pins σ H s → Vals vs us → t vs σ H Q →
    wpAny (model X.prog X.w) X.A (assignInOrder ((assignEach ts X.env).map (·.2)) us) (fun _ s' => ∃ σ' H', Inv X pins σ' H' s' ∧ Q σ' H') X.xe s
abbrev TSet := V → V → V → Hp → (Hp → Prop) → Prop
def PSet (X : Cx) (t : TSet) : Prop :=
  ∀ (pins : List (Addr × Obj)) (s : Shared) (σ : St) (H : Hp) (o i v : V) (ov iv u : Value) (Q : Hp → Prop), Inv X pins σ H s → RelV o ov → RelV i iv → RelV v u → t o i v H Q →
    wpAny (model X.prog X.w) X.A (setItem ov iv u) (fun _ s' => ∃ H', Inv X pins σ H' s' ∧ Q H') X.xe s
section
variable {X : Cx} {pos : Pos}
def gName (i : Nat) : TG := fun v σ H Q => Q (σ.set i (some v)) H
theorem pg_name {i : Nat} {x : Str} (hN : X.N.Nodup) (hi : X.N[i]? = some x) (hx : Loc X.env.scope x) (hf : X.fn x = true ∨ X.env.scope.names.lookup x = some .local := by first | exact .inl rfl | exact .inr rfl | assumption) : PG X (.Name x pos) (gName i) := by
  intro pins s σ H v u Q I r h
  exact wpAny_assign_Name (store_ok I hN hi hx r (fun s' I' => ⟨_, H, I', h⟩) hf)
def gNil : TGs := fun vs σ H Q => vs = [] ∧ Q σ H
def gCons (t : TG) (u : TGs) : TGs := fun vs σ H Q => ∃ v r, vs = v :: r ∧ t v σ H fun σ' H' => u r σ' H' Q
theorem pgs_nil : PGs X [] gNil := by
  intro pins s σ H vs us Q I r h
  obtain ⟨e, h⟩ := h
  subst e
  cases r
  exact assignInOrder_nil ⟨σ, H, I, h⟩
theorem pgs_cons {e : Expr} {es : List Expr} {t : TG} {u : TGs} (h1 : PG X e t) (h2 : PGs X es u)
    (hs : (assignEach (e :: es) X.env).map (·.2) = assign e X.env :: (assignEach es X.env).map (·.2) := by rfl) : PGs X (e :: es) (gCons t u) := by
  intro pins s σ H vs us Q I r h
  obtain ⟨v, vr, e1, h⟩ := h
  subst e1
  cases r with
  | cons r rr =>
    rw [hs]
    refine assignInOrder_cons (thn (h1 pins s σ H _ _ _ I r h) fun _ s1 ⟨σ1, H1, I1, q1⟩ => ?_)
    exact h2 pins s1 σ1 H1 _ _ Q I1 rr q1
def gTup (K : PySem.W.Frag) (n : Nat) (t : TGs) : TG := fun v σ H Q => ∃ a xs, v = .ref a ∧ SqT K H a xs ∧ xs.length = n ∧ t xs σ H Q
theorem pg_tup {es : List Expr} {k : Nat} {t : TGs} {n : Nat} (hc : X.calm = true) (h : PGs X es t)
    (hn : (assignEach es X.env).length = n := by rfl) (hst : (assignEach es X.env).findIdx? (·.1) = none := by rfl) : PG X (.Tuple es k pos) (gTup X.K n t) := by
  intro pins s σ H v u Q I r hw
  obtain ⟨a, xs, e1, hq, hl, hw⟩ := hw
  subst e1
  cases r
  obtain ⟨its, rv, ht, hz⟩ := I.tuple hq
  refine assign_Tuple_tuple (I.ok.hd hc) ht (by simp [hn, ← hl, rv.length]) hst fun h' hx => ?_
  have I1 : Inv X pins σ H { s with heap := h' } := I.kept (t' := s.toks) fun b o e => hx b o (Nat.ne_of_lt (Heap.lt_size e)) e
  exact h pins _ σ H xs _ Q I1 (by simpa using rv) hw
def gSub (to ti : TE) (t : TSet) : TG := fun v σ H Q => to σ H fun o H1 => ti σ H1 fun i H2 => t o i v H2 fun H3 => Q σ H3
theorem pg_sub {o i : Expr} {to ti : TE} {t : TSet} (ho : PE X o to) (hi : PE X i ti) (hs : PSet X t)
    (ha : ∀ v, assign (.Subscript o i pos) X.env v = (do
      let ov ← holding [v] (eval o X.env)
      let iv ← holding [v, ov] (eval i X.env)
      standAt pos
      holding [v, ov, iv] (setItem ov iv v)
      release [v, ov, iv] []) := by intro _; rfl) : PG X (.Subscript o i pos) (gSub to ti t) := by
  intro pins s σ H v u Q I r h
  rw [ha]
  refine wpAny_bind (wpAny_holding (thn (ho pins s σ H _ I h) fun ov s1 ⟨x, H1, I1, r1, q1⟩ => ?_))
  refine wpAny_bind (wpAny_holding (thn (hi pins s1 σ H1 _ I1 q1) fun iv s2 ⟨y, H2, I2, r2, q2⟩ => ?_))
  refine wpAny_bind (wpAny_standAt (wpAny_bind (wpAny_holding (thn (hs pins s2 σ H2 x y v ov iv u _ I2 r1 r2 r q2) fun _ s3 ⟨H3, I3, q3⟩ => ?_))))
  exact wpAny_release ⟨σ, H3, I3, q3⟩
def tAsg (te : TE) (g : TG) : TS := fun D σ H => te σ H fun x H1 => g x σ H1 D.nx
theorem ps_asg {tg e : Expr} {te : TE} {g : TG} (he : PE X e te) (hg : PG X tg g) (hs : swapsWithSole [tg] e pos.line X.env = pure false := by rfl) (hw : swappedStores [tg] e X.env = pure none := by rfl)
    (h1 : (assignEach [tg] X.env).map (·.2) = [assign tg X.env] := by rfl) : PS X (.Assign [tg] e pos) (tAsg te g) := by
  intro pins s σ H D I h
  refine wpAny_Assign_stores (thn (he pins s σ H _ I h) fun v s1 ⟨x, H1, I1, r1, q1⟩ => ?_) hs hw
  rw [h1]
  exact thn (hg pins s1 σ H1 x v _ I1 r1 q1) fun _ s2 q => q
theorem ps_set {i : Nat} {x : Str} {e : Expr} {te : TE} {pos' : Pos} (hN : X.N.Nodup) (hi : X.N[i]? = some x) (hx : Loc X.env.scope x) (he : PE X e te) (hs : swapsWith e (some (.Name x pos')) pos.line X.env = pure false := by rfl) (hf : X.fn x = true ∨ X.env.scope.names.lookup x = some .local := by first | exact .inl rfl | exact .inr rfl | assumption) :
    PS X (.Assign [.Name x pos'] e pos) (tAsg te (gName i)) := by
  intro pins s σ H D I h
  refine wpAny_Assign_Name (thn (he pins s σ H _ I h) fun v s1 ⟨y, H1, I1, r1, q1⟩ => ?_) hs
  exact store_ok I1 hN hi hx r1 (fun s2 I2 => ⟨_, H1, I2, q1⟩) hf
end
section
variable {X : Cx} {pos : Pos}
def tWhile (c : TT) (tb : TS) : TS := fun D σ H => ∃ W : Nat → St → Hp → Prop, (∃ m, W m σ H) ∧ ∀ m σ H, W m σ H →
  c σ H fun b H1 => if b = true then ∃ N : St → Hp → Prop, (∀ σ' H', N σ' H' → ∃ m', m' < m ∧ W m' σ' H') ∧ tb { D with nx := N, ct := N, bk := D.nx } σ H1 else D.nx σ H1
theorem ps_while {c : Expr} {body : List Stmt} {tc : TT} {tb : TS} (hp : PassesOwn (model X.prog X.w) X.A X.env X.xe) (hc : PT X c tc) (hb : PSs X body tb) : PS X (.While c body [] pos) (tWhile tc tb) := by
  intro pins s σ H D I h
  obtain ⟨W, ⟨m0, w0⟩, turn⟩ := h
  refine wpAny_While (codeAny_whileLoop (fun n s' => ∃ σ' H', Inv X pins σ' H' s' ∧ W n σ' H') ?_ m0 ⟨σ, H, I, w0⟩)
  rintro n s1 ⟨σ1, H1, I1, w1⟩
  refine wpAny_passesOwn hp (thn (hc pins s1 σ1 H1 _ I1 (turn n σ1 H1 w1)) fun b s2 ⟨H2, I2, q2⟩ => ?_)
  cases b with
  | true =>
    obtain ⟨N, hN, q2⟩ := q2
    rw [if_pos rfl]
    refine wpAny_passesOwn hp (thn (hb pins s2 σ1 H2 _ I2 q2) fun f s3 q3 => ?_)
    cases f with
    | next =>
      obtain ⟨σ3, H3, I3, n3⟩ := q3
      obtain ⟨m', hm, w3⟩ := hN σ3 H3 n3
      exact ⟨m', hm, σ3, H3, I3, w3⟩
    | cont =>
      obtain ⟨σ3, H3, I3, n3⟩ := q3
      obtain ⟨m', hm, w3⟩ := hN σ3 H3 n3
      exact ⟨m', hm, σ3, H3, I3, w3⟩
    | brk => exact q3
    | ret v => exact q3
  | false =>
    rw [if_neg Bool.false_ne_true]
    exact wpAny_execs_nil ⟨σ1, H2, I2, q2⟩
end
structure It where
  go : Nat → Hp → Prop
  yld : Nat → Hp → V → Hp → Prop
  stop : Nat → Hp → Prop
def FpOk (X : Cx) (pins : List (Addr × Obj)) (H : Hp) (b : Addr) : Prop :=
  H b = none ∧ b ≠ X.env.locals ∧ b ∉ X.fs ∧ (b ∈ X.ex ∨ X.s₀.heap.objs.size ≤ b) ∧ (∀ x c, X.env.cells.lookup x = some c → c ≠ b) ∧ ∀ p ∈ X.pn ++ pins, p.1 ≠ b
theorem Inv.fpOk {X : Cx} {pins : List (Addr × Obj)} {σ : St} {H H' : Hp} {s : Shared} {b : Addr} (I : Inv X pins σ H s) (hb : s.heap.objs.size ≤ b) (hn : H' b = none) : FpOk X pins H' b := by
  refine ⟨hn, Nat.ne_of_gt (Nat.lt_of_lt_of_le I.lt hb), I.nofs hb, .inr (Nat.le_trans I.sz hb), fun x c e z => ?_, fun p hp z => ?_⟩
  · obtain ⟨v, q⟩ := I.cell x c e
    exact absurd (Nat.lt_of_lt_of_le q.lt (by rw [z]; exact hb)) (Nat.lt_irrefl _)
  · exact absurd (Nat.lt_of_lt_of_le (Heap.lt_size (I.pin p hp).1) (by rw [z]; exact hb)) (Nat.lt_irrefl _)
structure Turn (P : Program) (w : World) (K : PySem.W.Frag) (tg : Expr) (J : It) (fp : List Addr) (it : Addr) (tn : Nat → Heap → Prop) : Prop where
  mem : it ∈ fp
  obj : ∀ i h, tn i h → ∀ b ∈ fp, ∃ o, h.get? b = some o ∧ ∀ v, o.data ≠ .cell v
  keep : ∀ i h h', tn i h → (∀ b ∈ fp, ∀ o, h.get? b = some o → h'.get? b = some o) → tn i h'
  item : ∀ (X : Cx), X.prog = P → X.w = w → X.K = K → X.calm = true → ∀ (i : Nat) (pins : List (Addr × Obj)) (s : Shared) (σ : St) (H : Hp) (E : Value → Shared → Prop), Inv X pins σ H s → (∀ b ∈ fp, FpOk X pins H b) → tn i s.heap → J.go i H →
    wpAny (model P w) X.A (pyNext (.ref it)) (fun r s1 => ∃ u, r = some u ∧
      wpAny (model P w) X.A (letOwnedTupleGo tg (.ref it) u) (fun _ s2 => ∃ x H', Inv X pins σ H' s2 ∧ RelV x u ∧ J.yld i H x H' ∧ tn (i + 1) s2.heap ∧ ∀ b ∈ fp, H' b = none) E s1) E s
  done : ∀ (X : Cx), X.prog = P → X.w = w → X.K = K → X.calm = true → ∀ (i : Nat) (pins : List (Addr × Obj)) (s : Shared) (σ : St) (H : Hp) (E : Value → Shared → Prop), Inv X pins σ H s → (∀ b ∈ fp, FpOk X pins H b) → tn i s.heap → J.stop i H →
    wpAny (model P w) X.A (pyNext (.ref it)) (fun r s1 => r = none ∧ Inv X pins σ H s1) E s
  self : ∀ (A : Around) (i : Nat) (s : Shared) (Q : Value → Shared → Prop) (E : Value → Shared → Prop), tn i s.heap → Q (.ref it) s → wpAny (model P w) A (pyIter (.ref it)) Q E s
abbrev TI := St → Hp → (It → Hp → Prop) → Prop
def PIE (X : Cx) (pins : List (Addr × Obj)) (σ : St) (tg : Expr) (R : It → Hp → Prop) (itv : Value) (s2 : Shared) : Prop :=
  ∃ (it : Addr) (fp : List Addr) (tn : Nat → Heap → Prop) (J : It) (H' : Hp), itv = .ref it ∧ Inv X pins σ H' s2 ∧ Turn X.prog X.w X.K tg J fp it tn ∧ tn 0 s2.heap ∧ (∀ b ∈ fp, FpOk X pins H' b) ∧ R J H'
def PI (X : Cx) (tg iter : Expr) (wi : TI) : Prop :=
  ∀ (pins : List (Addr × Obj)) (s : Shared) (σ : St) (H : Hp) (R : It → Hp → Prop), Inv X pins σ H s → wi σ H R →
    wpAny (model X.prog X.w) X.A (eval iter X.env) (fun v s1 => wpAny (model X.prog X.w) X.A (pyIter v) (PIE X pins σ tg R) X.xe s1) X.xe s
theorem go_of {M : Model} {A : Around} {E : Value → Shared → Prop} {s : Shared} {tg : Expr} {it : Addr} {u : Value} {o : Obj} {n : String} {vs : Array Value} {Q : Unit → Shared → Prop} (ho : s.heap.get? it = some o) (hc : o.cls = .type n) (hd : o.data = .fields vs)
    (hn : ["enumerate", "zip", "dict_itemiterator", "dict_reverseitemiterator", "odict_iterator", "itertools.zip_longest", "itertools.pairwise"].contains n = false) (hQ : Q () s) : wpAny M A (letOwnedTupleGo tg (.ref it) u) Q E s := by
  unfold letOwnedTupleGo
  cases tg <;> first
    | exact wpAny_pure hQ
    | (cases u <;> first
        | exact wpAny_pure hQ
        | (refine wpAny_bind (wpAny_load ho ?_)
           rw [hc, hd]
           show wpAny M A (if (["enumerate", "zip", "dict_itemiterator", "dict_reverseitemiterator", "odict_iterator", "itertools.zip_longest", "itertools.pairwise"].contains n && vs[0]? == some (rawInt _)) = true then _ else _) Q E s
           rw [if_neg (by intro h; rw [hn, Bool.false_and] at h; cases h)]
           exact wpAny_pure hQ))
def Itl (K : PySem.W.Frag) (a : Addr) : It :=
  ⟨fun i H => ∃ xs x, SqL K H a xs ∧ xs[i]? = some x, fun i H x H' => H' = H ∧ ∀ xs, SqL K H a xs → xs[i]? = some x, fun i H => ∃ xs, SqL K H a xs ∧ xs.length ≤ i⟩
def Itr (lo : Int) (n : Nat) : It := ⟨fun i _ => i < n, fun i H x H' => H' = H ∧ x = .int (lo + i), fun i _ => n ≤ i⟩
theorem turn_list {P : Program} {w : World} {K : PySem.W.Frag} {tg : Expr} (a it : Addr) : Turn P w K tg (Itl K a) [it] it (fun i h => h.IsListIter it a i) where
  mem := by simp
  obj := fun i h st b hb => by
    have e : b = it := by simpa using hb
    subst e
    obtain ⟨o, e, c, d⟩ := st
    exact ⟨o, e, fun v z => by rw [d] at z; cases z⟩
  keep := fun i h h' st k => st.at fun o e => k it (by simp) o e
  item := by
    intro X hP hw hK hc i pins s σ H E I hf st hg
    subst hP hw hK
    obtain ⟨xs, x, hq, hx⟩ := hg
    obtain ⟨its, rv, p, hz⟩ := I.list hq
    obtain ⟨u, hu, ru⟩ := rv.get hx
    obtain ⟨f0, f1, f2, f3, f4, f5⟩ := hf it (by simp)
    refine wpAny_pyNext_list_item st p.isList (x := u) (by simpa using hu) fun h' st' sb => ?_
    have I1 : Inv X pins σ H { s with heap := h' } := I.turned (t' := s.toks) (fun b o hb e => (sb.2 b hb).trans e) f0 f1 f3 f4 f5
    obtain ⟨o, e, c, d⟩ := id st'
    exact ⟨u, rfl, go_of (s := { s with heap := h' }) e c d (by decide) ⟨x, H, I1, ru, ⟨rfl, fun ys hy => by rw [I.list_inj hy hq]; exact hx⟩, st', fun b hb => (hf b hb).1⟩⟩
  done := by
    intro X hP hw hK hc i pins s σ H E I hf st hg
    subst hP hw hK
    obtain ⟨xs, hq, hx⟩ := hg
    obtain ⟨its, rv, p, hz⟩ := I.list hq
    obtain ⟨f0, f1, f2, f3, f4, f5⟩ := hf it (by simp)
    have hl := rv.length
    exact wpAny_pyNext_list_end (I.ok.hd hc) st p.isList (by simp; omega) fun h' eb => ⟨rfl, I.turned (t' := s.toks) (fun b o hb e => eb b o hb e) f0 f1 f3 f4 f5⟩
  self := fun _ _ _ _ _ st h => wpAny_pyIter_listiter st h
theorem turn_range {P : Program} {w : World} {K : PySem.W.Frag} {tg : Expr} (it : Addr) (lo : Int) (n : Nat) : Turn P w K tg (Itr lo n) [it] it (fun i h => IsRangeIter h it (lo + (i : Nat) * 1) ((n : Int) - (i : Nat)) 1) where
  mem := by simp
  obj := fun i h st b hb => by
    have e : b = it := by simpa using hb
    subst e
    exact ⟨_, st, fun v z => by
      have z' : Data.fields _ = Data.cell v := z
      cases z'⟩
  keep := fun i h h' st k => k it (by simp) _ st
  item := by
    intro X hP hw hK hc i pins s σ H E I hf st hg
    subst hP hw hK
    obtain ⟨f0, f1, f2, f3, f4, f5⟩ := hf it (by simp)
    have W := Walks.range (prog := X.prog) (w := X.w) (I.ok.hd hc) it lo 1 n
    refine W.item i s _ _ hg st fun v h' tk hv st' kk => ?_
    obtain ⟨t, rfl⟩ := hv
    have I1 : Inv X pins σ H { s with heap := h', toks := tk } := I.turned (fun b o hb e => kk b o (by simpa using hb) e) f0 f1 f3 f4 f5
    refine ⟨_, rfl, go_of (s := { s with heap := h', toks := tk }) (n := "range_iterator") st' rfl rfl (by decide) ⟨.int (lo + i), H, I1, ⟨t, ?_⟩, ⟨rfl, rfl⟩, st', fun b hb => (hf b hb).1⟩⟩
    rw [Int.mul_one]
  done := by
    intro X hP hw hK hc i pins s σ H E I hf st hg
    subst hP hw hK
    obtain ⟨f0, f1, f2, f3, f4, f5⟩ := hf it (by simp)
    exact wpAny_pyNext_range_end (I.ok.hd hc) st (by have : n ≤ i := hg; omega) fun h' eb => ⟨rfl, I.turned (t' := s.toks) (fun b o hb e => eb b o hb e) f0 f1 f3 f4 f5⟩
  self := fun _ _ _ _ _ st h => wpAny_pyIter_rangeiter st h
end L2
namespace L2
open PySem PySem.Spec PyProof.Rows
section
variable {X : Cx} {tg : Expr}
def iList (K : PySem.W.Frag) (tl : TE) : TI := fun σ H R => tl σ H fun x H1 => ∃ a, x = .ref a ∧ (∃ xs, SqL K H1 a xs) ∧ R (Itl K a) H1
theorem pi_list {l : Expr} {tl : TE} (hl : PE X l tl) : PI X tg l (iList X.K tl) := by
  intro pins s σ H R I h
  refine thn (hl pins s σ H _ I h) fun v s1 ⟨x, H1, I1, r1, q1⟩ => ?_
  obtain ⟨a, e, ⟨xs, hq⟩, q⟩ := q1
  subst e
  cases r1
  obtain ⟨its, rv, p, hz⟩ := I1.list hq
  refine wpAny_pyIter_list p.isList ?_
  refine ⟨s1.heap.objs.size, [s1.heap.objs.size], _, _, H1, rfl, I1.kept (t' := s1.toks) fun b o e => Heap.get?_push_of_some _ e, turn_list a _, ⟨_, Heap.get?_push_size _ rfl, rfl, rfl⟩, fun b hb => ?_, q⟩
  have e : b = s1.heap.objs.size := by simpa using hb
  subst e
  exact I1.fpOk (Nat.le_refl _) (I1.hok.fresh (Nat.le_refl _))
theorem range_it {pins : List (Addr × Obj)} {σ : St} {H : Hp} {s : Shared} {R : It → Hp → Prop} {E : Value → Shared → Prop} {lo hi : Int} {t u v : Tok} {tk : Nat} (I : Inv X pins σ H s) (h1 : -(2 ^ 62) ≤ lo) (h2 : lo < 2 ^ 62) (h3 : -(2 ^ 62) ≤ hi) (h4 : hi < 2 ^ 62)
    (q : R (Itr lo (hi - lo).toNat) H) : wpAny (model X.prog X.w) X.A (pyIter (.ref s.heap.objs.size)) (PIE X pins σ tg R) E { s with heap := s.heap.push { cls := .type "range", data := .fields #[.int lo t, .int hi u, .int 1 v] }, toks := tk } := by
  refine wpAny_pyIter_range (IsRange.new ..) (small_one h1 h2 h3 h4) ?_
  have I1 : Inv X pins σ H { s with heap := s.heap.push { cls := .type "range", data := .fields #[.int lo t, .int hi u, .int 1 v] }, toks := tk } := I.kept fun b o e => Heap.get?_push_of_some _ e
  refine ⟨(s.heap.push { cls := .type "range", data := .fields #[.int lo t, .int hi u, .int 1 v] }).objs.size, [(s.heap.push { cls := .type "range", data := .fields #[.int lo t, .int hi u, .int 1 v] }).objs.size], _, _, H, rfl,
    I1.kept (t' := tk) fun b o e => Heap.get?_push_of_some _ e, turn_range _ lo (hi - lo).toNat, ?_, fun b hb => ?_, q⟩
  · have e1 : lo + ((0 : Nat) : Int) * 1 = lo := by simp
    have e2 : (((hi - lo).toNat : Nat) : Int) - ((0 : Nat) : Int) = Builtin.Range.rangeSize lo hi 1 := by rw [rangeSize_one]; split <;> omega
    show IsRangeIter _ _ (lo + ((0 : Nat) : Int) * 1) ((((hi - lo).toNat : Nat) : Int) - ((0 : Nat) : Int)) 1
    rw [e1, e2]
    exact Heap.get?_push_size _ rfl
  · have e : b = (s.heap.push { cls := .type "range", data := .fields #[.int lo t, .int hi u, .int 1 v] }).objs.size := by simpa using hb
    subst e
    exact I1.fpOk (Nat.le_refl _) (I1.hok.fresh (Nat.le_refl _))
def iRng1 (ta : TA) : TI := fun σ H R => ta σ H fun vs H1 => ∃ j : Int, vs = [.int j] ∧ -(2 ^ 62) ≤ j ∧ j < 2 ^ 62 ∧ R (Itr 0 j.toNat) H1
theorem pi_range1 {a : Expr} {ta : TA} {p pos : Pos} (hg : Gl X "range") (hm : X.mg "range" = none) (ha : PA X [a] ta) (hs : starEach [a] X.env = [(false, eval a X.env)] := by rfl) : PI X tg (.Call (.Name "range" p) [a] [] pos) (iRng1 ta) := by
  intro pins s σ H R I h
  refine Call_ (ld_blt I hg hm boot_range (PyProof.Rows.callWith_type1 (thn (ha pos pins s σ H _ I h) fun us s1 ⟨vs, H1, I1, r1, q1⟩ => ?_) hs rfl))
  obtain ⟨j, e, q1, q2, q⟩ := q1
  subst e
  cases r1 with
  | cons r rr =>
    cases rr
    obtain ⟨t, rfl⟩ := r
    exact call_range_1 (range_it I1 (by omega) (by omega) q1 q2 (by simpa using q))
def tFor (wi : TI) (g : TG) (tb : TS) : TS := fun D σ H => wi σ H fun J H1 => ∃ W : Nat → Nat → St → Hp → Prop, (∃ m, W 0 m σ H1) ∧ ∀ i m σ H, W i m σ H →
  (J.stop i H ∧ D.nx σ H) ∨ (J.go i H ∧ ∃ N : St → Hp → Prop, (∀ σ' H', N σ' H' → ∃ m', m' < m ∧ W (i + 1) m' σ' H') ∧ ∀ x H', J.yld i H x H' → g x σ H' fun σ2 H2 => tb { D with nx := N, ct := N, bk := D.nx } σ2 H2)
def pinsAt (fp : List Addr) (h : Heap) : List (Addr × Obj) := fp.filterMap fun b => (h.get? b).map fun o => (b, o)
theorem mem_pinsAt {fp : List Addr} {h : Heap} {b : Addr} {o : Obj} (hb : b ∈ fp) (e : h.get? b = some o) : (b, o) ∈ pinsAt fp h := List.mem_filterMap.mpr ⟨b, hb, by rw [e]; rfl⟩
theorem of_pinsAt {fp : List Addr} {h : Heap} {p : Addr × Obj} (hp : p ∈ pinsAt fp h) : p.1 ∈ fp ∧ h.get? p.1 = some p.2 := by
  obtain ⟨b, hb, e⟩ := List.mem_filterMap.mp hp
  cases q : h.get? b with
  | none => rw [q] at e; cases e
  | some o =>
    rw [q] at e
    have e' : (b, o) = p := Option.some.inj e
    subst e'
    exact ⟨hb, q⟩
theorem Inv.pinned {pins : List (Addr × Obj)} {σ : St} {H : Hp} {s : Shared} {fp : List Addr} (I : Inv X pins σ H s) (hf : ∀ b ∈ fp, FpOk X pins H b) (ho : ∀ b ∈ fp, ∃ o, s.heap.get? b = some o ∧ ∀ v, o.data ≠ .cell v) : Inv X (pins ++ pinsAt fp s.heap) σ H s :=
  I.pins_of fun p hp => (List.mem_append.mp hp).elim (fun z => I.pin p (List.mem_append_right _ z)) fun z => by
    obtain ⟨hb, e⟩ := of_pinsAt z
    obtain ⟨f0, f1, f2, _⟩ := hf p.1 hb
    obtain ⟨o, e', d⟩ := ho p.1 hb
    rw [e] at e'; cases e'
    exact ⟨e, f0, f1, f2, d⟩
theorem Inv.unpinned {pins pl : List (Addr × Obj)} {σ : St} {H : Hp} {s : Shared} (I : Inv X (pins ++ pl) σ H s) : Inv X pins σ H s := I.pins_of fun p hp => I.pin p (List.mem_append_right _ (List.mem_append_left _ hp))
theorem ps_for {iter : Expr} {body : List Stmt} {wi : TI} {g : TG} {tb : TS} {pos : Pos} (hp : PassesOwn (model X.prog X.w) X.A X.env X.xe) (hc : X.calm = true) (hi : PI X tg iter wi) (hg : PG X tg g) (hb : PSs X body tb)
    (hs : ∀ x, foldedSetIterable iter X.env x = pure x := by intro _; rfl) : PS X (.For tg iter body [] pos) (tFor wi g tb) := by
  intro pins s σ H D I h
  refine wpAny_For (thn (hi pins s σ H _ I h) fun v s1 h1 => thn h1 fun itv s2 h2 => ?_) hs
  obtain ⟨it, fp, tn, J, H2, e, I2, T, st2, f2, W, ⟨m0, w0⟩, turn⟩ := h2
  subst e
  have stat : ∀ {H' : Hp}, (∀ b ∈ fp, H' b = none) → ∀ b ∈ fp, FpOk X pins H' b := fun hn b hb => ⟨hn b hb, (f2 b hb).2⟩
  refine codeAny_forLoop_any (fun n s' => ∃ i σ' H', Inv X pins σ' H' s' ∧ tn i s'.heap ∧ (∀ b ∈ fp, H' b = none) ∧ W i n σ' H') ?_ m0 ⟨0, σ, H2, I2, st2, fun b hb => (f2 b hb).1, w0⟩
  rintro n s3 ⟨i, σ3, H3, I3, st3, fr3, w3⟩
  rcases turn i n σ3 H3 w3 with ⟨stop, qn⟩ | ⟨go, N, hN, step⟩
  · refine wpAny_passesOwn hp (thn (T.done X rfl rfl rfl hc i pins s3 σ3 H3 X.xe I3 (stat fr3) st3 stop) fun r s4 ⟨hr, I4⟩ => ?_)
    subst hr
    exact wpAny_execs_nil ⟨σ3, H3, I4, qn⟩
  · refine wpAny_passesOwn hp (thn (T.item X rfl rfl rfl hc i pins s3 σ3 H3 X.xe I3 (stat fr3) st3 go) fun r s4 ⟨u, hr, h4⟩ => ?_)
    subst hr
    refine wpAny_passesOwn hp (thn h4 fun _ s5 ⟨x, H5, I5, r5, y5, st5, fr5⟩ => ?_)
    have I5' := I5.pinned (stat fr5) (T.obj _ _ st5)
    refine wpAny_passesOwn hp (thn (hg _ s5 σ3 H5 x u _ I5' r5 (step x H5 y5)) fun _ s6 ⟨σ6, H6, I6, q6⟩ => ?_)
    refine wpAny_passesOwn hp (thn (hb _ s6 σ6 H6 _ I6 q6) fun f s7 q7 => ?_)
    have again : ∀ {σ7 : St} {H7 : Hp}, Inv X (pins ++ pinsAt fp s5.heap) σ7 H7 s7 → N σ7 H7 → ∃ m, m < n ∧ ∃ i σ' H', Inv X pins σ' H' s7 ∧ tn i s7.heap ∧ (∀ b ∈ fp, H' b = none) ∧ W i m σ' H' := fun {σ7 H7} I7 n7 => by
      obtain ⟨m', hm, w7⟩ := hN σ7 H7 n7
      refine ⟨m', hm, i + 1, σ7, H7, I7.unpinned, T.keep _ _ _ st5 fun b hb o e => (I7.pin (b, o) (List.mem_append_right _ (List.mem_append_right _ (mem_pinsAt hb e)))).1, fun b hb => ?_, w7⟩
      obtain ⟨o, e, d⟩ := T.obj _ _ st5 b hb
      exact (I7.pin (b, o) (List.mem_append_right _ (List.mem_append_right _ (mem_pinsAt hb e)))).2.1
    cases f with
    | next => obtain ⟨σ7, H7, I7, n7⟩ := q7; exact again I7 n7
    | cont => obtain ⟨σ7, H7, I7, n7⟩ := q7; exact again I7 n7
    | brk => obtain ⟨σ7, H7, I7, q7⟩ := q7; exact ⟨σ7, H7, I7.unpinned, q7⟩
    | ret v => obtain ⟨x7, σ7, H7, I7, r7, q7⟩ := q7; exact ⟨x7, σ7, H7, I7.unpinned, r7, q7⟩
end
theorem for_list {K : PySem.W.Frag} {a : Addr} {xs : List V} {g : TG} {tb : TS} {D : Ends} {σ : St} {H : Hp} (Pv : Nat → St → Hp → Prop) (h0 : Pv 0 σ H) (hl : ∀ i σ H, i ≤ xs.length → Pv i σ H → SqL K H a xs)
    (hs : ∀ i x σ H, xs[i]? = some x → Pv i σ H → g x σ H fun σ2 H2 => tb { D with nx := Pv (i + 1), ct := Pv (i + 1), bk := D.nx } σ2 H2) (hd : ∀ σ H, Pv xs.length σ H → D.nx σ H) :
    ∃ W : Nat → Nat → St → Hp → Prop, (∃ m, W 0 m σ H) ∧ ∀ i m σ H, W i m σ H →
      ((Itl K a).stop i H ∧ D.nx σ H) ∨ ((Itl K a).go i H ∧ ∃ N : St → Hp → Prop, (∀ σ' H', N σ' H' → ∃ m', m' < m ∧ W (i + 1) m' σ' H') ∧ ∀ x H', (Itl K a).yld i H x H' → g x σ H' fun σ2 H2 => tb { D with nx := N, ct := N, bk := D.nx } σ2 H2) := by
  refine ⟨fun i m σ H => m = xs.length - i ∧ i ≤ xs.length ∧ Pv i σ H, ⟨xs.length, by simp, Nat.zero_le _, h0⟩, ?_⟩
  rintro i m σ H ⟨rfl, hi, p⟩
  have q := hl i σ H hi p
  by_cases hlt : i < xs.length
  · refine .inr ⟨⟨xs, xs[i], q, by simp [hlt]⟩, Pv (i + 1), fun σ' H' p' => ⟨xs.length - (i + 1), by omega, rfl, hlt, p'⟩, fun x H' y => ?_⟩
    obtain ⟨e, y⟩ := y
    subst e
    exact hs i x σ _ (y xs q) p
  · have e : i = xs.length := by omega
    subst e
    exact .inl ⟨⟨xs, q, Nat.le_refl _⟩, hd σ H p⟩
theorem for_range {lo : Int} {n : Nat} {g : TG} {tb : TS} {D : Ends} {σ : St} {H : Hp} (Pv : Nat → St → Hp → Prop) (h0 : Pv 0 σ H)
    (hs : ∀ i σ H, i < n → Pv i σ H → g (.int (lo + i)) σ H fun σ2 H2 => tb { D with nx := Pv (i + 1), ct := Pv (i + 1), bk := D.nx } σ2 H2) (hd : ∀ σ H, Pv n σ H → D.nx σ H) :
    ∃ W : Nat → Nat → St → Hp → Prop, (∃ m, W 0 m σ H) ∧ ∀ i m σ H, W i m σ H →
      ((Itr lo n).stop i H ∧ D.nx σ H) ∨ ((Itr lo n).go i H ∧ ∃ N : St → Hp → Prop, (∀ σ' H', N σ' H' → ∃ m', m' < m ∧ W (i + 1) m' σ' H') ∧ ∀ x H', (Itr lo n).yld i H x H' → g x σ H' fun σ2 H2 => tb { D with nx := N, ct := N, bk := D.nx } σ2 H2) := by
  refine ⟨fun i m σ H => m = n - i ∧ i ≤ n ∧ Pv i σ H, ⟨n, by simp, Nat.zero_le _, h0⟩, ?_⟩
  rintro i m σ H ⟨rfl, hi, p⟩
  by_cases hlt : i < n
  · refine .inr ⟨hlt, Pv (i + 1), fun σ' H' p' => ⟨n - (i + 1), by omega, rfl, hlt, p'⟩, fun x H' y => ?_⟩
    obtain ⟨e, y⟩ := y
    subst e y
    exact hs i σ _ hlt p
  · have e : i = n := by omega
    subst e
    exact .inl ⟨Nat.le_refl _, hd σ H p⟩
end L2
namespace L2
open PySem PySem.Spec PyProof.Rows
abbrev R2 := V → V → Hp → VK → Prop
def OpR (X : Cx) (f : Value → Value → Sem Value) (r : R2) : Prop :=
  ∀ (pins : List (Addr × Obj)) (s : Shared) (σ : St) (H : Hp) (x y : V) (v u : Value) (Q : VK), Inv X pins σ H s → RelV x v → RelV y u → r x y H Q →
    wpAny (model X.prog X.w) X.A (f v u) (EP X pins σ Q) X.xe s
def UnR (X : Cx) (f : Value → Sem Value) (r : V → Hp → VK → Prop) : Prop :=
  ∀ (pins : List (Addr × Obj)) (s : Shared) (σ : St) (H : Hp) (x : V) (v : Value) (Q : VK), Inv X pins σ H s → RelV x v → r x H Q →
    wpAny (model X.prog X.w) X.A (f v) (EP X pins σ Q) X.xe s
def CallR (X : Cx) (f : Value) (r : List V → Hp → VK → Prop) : Prop :=
  ∀ (pins : List (Addr × Obj)) (s : Shared) (σ : St) (H : Hp) (xs : List V) (us : List Value) (Q : VK), Inv X pins σ H s → Vals xs us → r xs H Q →
    wpAny (model X.prog X.w) X.A (call f us) (EP X pins σ Q) X.xe s
def tOp (r : R2) (ta tb : TE) : TE := fun σ H Q => ta σ H fun x H1 => tb σ H1 fun y H2 => r x y H2 Q
def tUn (r : V → Hp → VK → Prop) (ta : TE) : TE := fun σ H Q => ta σ H fun x H1 => r x H1 Q
def rI (C : Int → Int → Prop) (g : Int → Int → V) : R2 := fun x y H Q => ∃ i j, x = .int i ∧ y = .int j ∧ C i j ∧ Q (g i j) H
def rI0 (g : Int → Int → V) : R2 := fun x y H Q => ∃ i j, x = .int i ∧ y = .int j ∧ Q (g i j) H
def rU (g : Int → V) : V → Hp → VK → Prop := fun x H Q => ∃ i, x = .int i ∧ Q (g i) H
section
variable {X : Cx} {a b c : Expr} {ta tb tc : TE} {pos : Pos}
theorem binT (ha : PE X a ta) (hb : PE X b tb) {pins : List (Addr × Obj)} {s : Shared} {σ : St} {H : Hp} {R : V → V → Hp → Prop} (I : Inv X pins σ H s)
    (h : ta σ H fun x H1 => tb σ H1 fun y H2 => R x y H2) {Q : Value → Shared → Prop} {f : Value → Value → Sem Value}
    (hf : ∀ v u s2 x y H2, Inv X pins σ H2 s2 → RelV x v → RelV y u → R x y H2 → wpAny (model X.prog X.w) X.A (f v u) Q X.xe s2) :
    wpAny (model X.prog X.w) X.A (eval a X.env) (fun v s₁ => wpAny (model X.prog X.w) X.A (eval b X.env) (fun u s₂ => wpAny (model X.prog X.w) X.A (f v u) Q X.xe s₂) X.xe s₁) X.xe s := by
  refine thn (ha pins s σ H _ I h) fun v s1 ⟨x, H1, I1, r1, q1⟩ => ?_
  refine thn (hb pins s1 σ H1 _ I1 q1) fun u s2 ⟨y, H2, I2, r2, q2⟩ => ?_
  exact hf v u s2 x y H2 I2 r1 r2 q2
theorem pe_op {op : Operator} {r : R2} (ho : OpR X (binaryOp op) r) (ha : PE X a ta) (hb : PE X b tb) : PE X (.BinOp a op b pos) (tOp r ta tb) := by
  intro pins s σ H Q I h
  exact wpAny_BinOp (binT ha hb I h fun v u s2 x y H2 I2 rx ry q => ho pins s2 σ H2 x y v u Q I2 rx ry q)
theorem pe_un {op : UnaryOp} {r : V → Hp → VK → Prop} (ho : UnR X (unaryOp op) r) (ha : PE X a ta) : PE X (.UnaryOp op a pos) (tUn r ta) := by
  intro pins s σ H Q I h
  exact UnaryOp_ (thn (ha pins s σ H _ I h) fun v s1 ⟨x, H1, I1, r1, q1⟩ => ho pins s1 σ H1 x v Q I1 r1 q1)
theorem opI {f : Value → Value → Sem Value} {C : Int → Int → Prop} {g : Int → Int → Int}
    (rule : ∀ (i j : Int) (t u : Tok) (s : Shared) (Q : Value → Shared → Prop) (E : Value → Shared → Prop), C i j → Q (.int (g i j) s.toks) { s with toks := s.toks + 1 } → wpAny (model X.prog X.w) X.A (f (.int i t) (.int j u)) Q E s) :
    OpR X f (rI C fun i j => .int (g i j)) := by
  intro pins s σ H x y v u Q I rx ry h
  obtain ⟨i, j, rfl, rfl, hc, q⟩ := h
  obtain ⟨t, rfl⟩ := rx
  obtain ⟨t', rfl⟩ := ry
  exact rule i j t t' s _ _ hc ⟨.int (g i j), H, I.tok _, ⟨_, rfl⟩, q⟩
theorem opI0 {f : Value → Value → Sem Value} {g : Int → Int → Int}
    (rule : ∀ (i j : Int) (t u : Tok) (s : Shared) (Q : Value → Shared → Prop) (E : Value → Shared → Prop), Q (.int (g i j) s.toks) { s with toks := s.toks + 1 } → wpAny (model X.prog X.w) X.A (f (.int i t) (.int j u)) Q E s) :
    OpR X f (rI0 fun i j => .int (g i j)) := by
  intro pins s σ H x y v u Q I rx ry h
  obtain ⟨i, j, rfl, rfl, q⟩ := h
  obtain ⟨t, rfl⟩ := rx
  obtain ⟨t', rfl⟩ := ry
  exact rule i j t t' s _ _ ⟨.int (g i j), H, I.tok _, ⟨_, rfl⟩, q⟩
theorem opB0 {f : Value → Value → Sem Value} {g : Int → Int → Bool}
    (rule : ∀ (i j : Int) (t u : Tok) (s : Shared) (Q : Value → Shared → Prop) (E : Value → Shared → Prop), Q (.bool (g i j)) s → wpAny (model X.prog X.w) X.A (f (.int i t) (.int j u)) Q E s) :
    OpR X f (rI0 fun i j => .bl (g i j)) := by
  intro pins s σ H x y v u Q I rx ry h
  obtain ⟨i, j, rfl, rfl, q⟩ := h
  obtain ⟨t, rfl⟩ := rx
  obtain ⟨t', rfl⟩ := ry
  exact rule i j t t' s _ _ ⟨.bl (g i j), H, I, rfl, q⟩
def CDiv (i j : Int) : Prop := 0 < j ∧ j < 1073741824
def CPow (i j : Int) : Prop := 0 ≤ j ∧ j ≤ 1000000 ∧ i.natAbs < 2 ^ 64
def CMul (i j : Int) : Prop := (-(2 ^ 64) < i ∧ i < 2 ^ 64) ∨ (-(2 ^ 64) < j ∧ j < 2 ^ 64)
theorem CMul.ok {i j : Int} (h : CMul i j) : IntMulOk i j := by
  rcases h with ⟨h1, h2⟩ | ⟨h1, h2⟩
  · exact .of_left (intBits_le_64 h1 h2)
  · exact .of_right (intBits_le_64 h1 h2)
theorem op_add : OpR X (binaryOp .Add) (rI0 fun i j => .int (i + j)) := opI0 fun _ _ _ _ _ _ _ q => add_int q
theorem op_sub : OpR X (binaryOp .Sub) (rI0 fun i j => .int (i - j)) := opI0 fun _ _ _ _ _ _ _ q => sub_int q
theorem op_mul : OpR X (binaryOp .Mult) (rI CMul fun i j => .int (i * j)) := opI fun _ _ _ _ _ _ _ hc q => mul_int q hc.ok
theorem op_fdiv : OpR X (binaryOp .FloorDiv) (rI CDiv fun i j => .int (i / j)) := opI fun i j _ _ _ _ _ hc q => by
  have h1 : (0 : Int) < j := hc.1
  have h2 : j < 1073741824 := hc.2
  exact floordiv_int (by omega) (by rw [Int.fdiv_eq_ediv_of_nonneg i (by omega)]; exact q) (.inl (PyProof.noPylong_small (by omega)))
theorem op_mod : OpR X (binaryOp .Mod) (rI (fun _ j => 0 < j) fun i j => .int (i % j)) := opI fun i j _ _ _ _ _ hc q => by
  have h1 : (0 : Int) < j := hc
  exact mod_int' (by omega) (by rw [Int.fmod_eq_emod_of_nonneg i (by omega)]; exact q)
theorem op_pow : OpR X (binaryOp .Pow) (rI CPow fun i j => .int (i ^ j.toNat)) := opI fun _ _ _ _ _ _ _ hc q => pow_int_small hc.1 hc.2.1 hc.2.2 q
theorem unI {f : Value → Sem Value} {g : Int → Int}
    (rule : ∀ (i : Int) (t : Tok) (s : Shared) (Q : Value → Shared → Prop) (E : Value → Shared → Prop), Q (.int (g i) s.toks) { s with toks := s.toks + 1 } → wpAny (model X.prog X.w) X.A (f (.int i t)) Q E s) :
    UnR X f (rU fun i => .int (g i)) := by
  intro pins s σ H x v Q I rx h
  obtain ⟨i, rfl, q⟩ := h
  obtain ⟨t, rfl⟩ := rx
  exact rule i t s _ _ ⟨.int (g i), H, I.tok _, ⟨_, rfl⟩, q⟩
theorem un_neg : UnR X (unaryOp .USub) (rU fun i => .int (-i)) := unI fun _ _ _ _ _ q => neg_int q
end
section
variable {X : Cx} {a b c : Expr} {ta tb tc : TE} {pos : Pos}
theorem fin_bl {pins : List (Addr × Obj)} {σ : St} {H : Hp} {s : Shared} {Q : VK} {k k' : Bool} (I : Inv X pins σ H s) (q : Q (.bl k) H) (e : k = k') : EP X pins σ Q (.bool k') s := by
  subst e
  exact ⟨.bl k, H, I, rfl, q⟩
theorem op_lt : OpR X (compareOp .Lt) (rI0 fun i j => .bl (decide (i < j))) := opB0 fun _ _ _ _ _ _ _ q => lt_int q
theorem op_le : OpR X (compareOp .LtE) (rI0 fun i j => .bl (decide (i ≤ j))) := opB0 fun _ _ _ _ _ _ _ q => le_int q
theorem op_gt : OpR X (compareOp .Gt) (rI0 fun i j => .bl (decide (j < i))) := opB0 fun _ _ _ _ _ _ _ q => gt_int q
theorem op_lt_str : OpR X (compareOp .Lt) (fun x y H Q => ∃ i j, x = .str i ∧ y = .str j ∧ Q (.bl (decide (i.cps.toList < j.cps.toList))) H) := by
  intro pins s σ H x y v u Q I rx ry h
  obtain ⟨i, j, rfl, rfl, q⟩ := h
  obtain ⟨t, rfl⟩ := rx
  obtain ⟨t', rfl⟩ := ry
  exact lt_str (fin_bl I q rfl)
theorem op_isN : OpR X (compareOp .Is) (fun x y H Q => y = .non ∧ Q (.bl (decide (x = .non))) H) := by
  intro pins s σ H x y v u Q I rx ry h
  obtain ⟨rfl, q⟩ := h
  cases ry
  refine is_none_gen (fin_bl I q ?_)
  cases x <;> first
    | (cases rx; rfl)
    | (obtain ⟨t, rfl⟩ := rx; rfl)
theorem op_notN : OpR X (compareOp .IsNot) (fun x y H Q => y = .non ∧ Q (.bl (!decide (x = .non))) H) := by
  intro pins s σ H x y v u Q I rx ry h
  obtain ⟨rfl, q⟩ := h
  cases ry
  refine isnot_none_gen (fin_bl I q ?_)
  cases x <;> first
    | (cases rx; rfl)
    | (obtain ⟨t, rfl⟩ := rx; rfl)
theorem OpR.or {f : Value → Value → Sem Value} {r r' : R2} (h : OpR X f r) (h' : OpR X f r') : OpR X f (fun x y H Q => r x y H Q ∨ r' x y H Q) := by
  intro pins s σ H x y v u Q I rx ry q
  rcases q with q | q
  · exact h pins s σ H x y v u Q I rx ry q
  · exact h' pins s σ H x y v u Q I rx ry q
theorem nomark (b : Expr) {op : CmpOp} (h : op ≠ .In := by decide) (h2 : op ≠ .NotIn := by decide) : behindInMarks op b = false := by
  have e1 : (op == CmpOp.In) = false := by cases op <;> first | rfl | exact absurd rfl h
  have e2 : (op == CmpOp.NotIn) = false := by cases op <;> first | rfl | exact absurd rfl h2
  cases b <;> simp [behindInMarks, e1, e2]
theorem pe_cmpR {op : CmpOp} {r : R2} (ho : OpR X (compareOp op) r) (ha : PE X a ta) (hb : PE X b tb) (hm : behindInMarks op b = false) : PE X (.Compare a [op] [b] pos) (tOp r ta tb) := by
  intro pins s σ H Q I h
  exact wpAny_Compare1 (binT ha hb I h fun v u s2 x y H2 I2 rx ry q => ho pins s2 σ H2 x y v u Q I2 rx ry q) hm
def tTest (t : TE) : TT := fun σ H Q => t σ H fun x H' => ∃ k, x = .bl k ∧ Q k H'
theorem pt_cmpR {op : CmpOp} {r : R2} (ho : OpR X (compareOp op) r) (ha : PE X a ta) (hb : PE X b tb) (hm : behindInMarks op b = false) : PT X (.Compare a [op] [b] pos) (tTest (tOp r ta tb)) := by
  intro pins s σ H Q I h
  refine wpAny_isTrue_Compare1 (thn (ha pins s σ H _ I h) fun v s1 ⟨x, H1, I1, r1, q1⟩ => thn (hb pins s1 σ H1 _ I1 q1) fun u s2 ⟨y, H2, I2, r2, q2⟩ =>
    thn (ho pins s2 σ H2 x y v u _ I2 r1 r2 q2) fun c s3 ⟨z, H3, I3, r3, k, e, q3⟩ => ?_) hm
  subst e
  cases r3
  exact wpAny_truthy_bool ⟨H3, I3, q3⟩
theorem line63 : (sizeLine : Nat) < 2 ^ 63 := by rw [sizeLine_eq]; decide
theorem op_add_str : OpR X (binaryOp .Add) (fun x y H Q => ∃ i j, x = .str i ∧ y = .str j ∧ i.length + j.length ≤ sizeLine ∧ Q (.str (i ++ j)) H) := by
  intro pins s σ H x y v u Q I rx ry h
  obtain ⟨i, j, rfl, rfl, hz, q⟩ := h
  obtain ⟨t, rfl⟩ := rx
  obtain ⟨t', rfl⟩ := ry
  exact add_str (fun t' tk => ⟨.str (i ++ j), H, I.tok _, ⟨_, rfl⟩, q⟩) hz
theorem vals1 {x : V} {us : List Value} (r : Vals [x] us) : ∃ u, us = [u] ∧ RelV x u := by
  cases r with
  | cons r1 r2 => cases r2; exact ⟨_, rfl, r1⟩
theorem vals2 {x y : V} {us : List Value} (r : Vals [x, y] us) : ∃ u w', us = [u, w'] ∧ RelV x u ∧ RelV y w' := by
  cases r with
  | cons r1 r2 =>
    cases r2 with
    | cons r3 r4 => cases r4; exact ⟨_, _, rfl, r1, r3⟩
theorem call_min2 (hc : X.calm = true) : CallR X (.builtin "min") (fun xs H Q => ∃ i j, xs = [.int i, .int j] ∧ Q (.int (if j < i then j else i)) H) := by
  intro pins s σ H xs us Q I r h
  obtain ⟨i, j, rfl, q⟩ := h
  obtain ⟨u, w', rfl, ⟨t, rfl⟩, ⟨t', rfl⟩⟩ := vals2 r
  refine min_two_ints (I.ok.hd hc) fun h' tk k => ⟨_, H, I.kept k, ?_, q⟩
  by_cases hj : j < i
  · rw [if_pos hj, if_pos hj]; exact ⟨_, rfl⟩
  · rw [if_neg hj, if_neg hj]; exact ⟨_, rfl⟩
def LenV (K : PySem.W.Frag) (x : V) (H : Hp) (n : Nat) : Prop :=
  match x with
  | .str y => y.length ≤ sizeLine ∧ n = y.length
  | .byt y => y.size ≤ sizeLine ∧ n = y.size
  | .ref p => (∃ xs, SqL K H p xs ∧ n = xs.length) ∨ ∃ xs, SqT K H p xs ∧ n = xs.length
  | _ => False
theorem call_len : CallR X (.builtin "len") (fun xs H Q => ∃ x n, xs = [x] ∧ LenV X.K x H n ∧ Q (.int n) H) := by
  intro pins s σ H xs us Q I r h
  obtain ⟨x, n, rfl, e, q⟩ := h
  obtain ⟨u, rfl, rx⟩ := vals1 r
  have hl := line63
  have hs : sizeLine = 16777216 := sizeLine_eq
  cases x with
  | str y =>
    obtain ⟨t, rfl⟩ := rx
    obtain ⟨hy, e'⟩ : y.length ≤ sizeLine ∧ n = y.length := e
    subst e'
    exact len_str (by omega) ⟨.int _, H, I.tok _, ⟨_, rfl⟩, q⟩
  | byt y =>
    obtain ⟨t, rfl⟩ := rx
    obtain ⟨hy, e'⟩ : y.size ≤ sizeLine ∧ n = y.size := e
    subst e'
    exact PySem.W.len_bytes (by omega) ⟨.int _, H, I.tok _, ⟨_, rfl⟩, q⟩
  | ref p =>
    cases rx
    have e' : (∃ xs, SqL X.K H p xs ∧ n = xs.length) ∨ ∃ xs, SqT X.K H p xs ∧ n = xs.length := e
    rcases e' with ⟨xs, hx, e'⟩ | ⟨xs, hx, e'⟩
    · subst e'
      obtain ⟨its, r', pl, hz⟩ := I.list hx
      have hlen := r'.length
      exact Calls.call_len_list pl.isList (by simp only [List.size_toArray]; omega) ⟨.int xs.length, H, I.tok _, ⟨_, by simp only [List.size_toArray]; rw [hlen]⟩, q⟩
    · subst e'
      obtain ⟨its, r', pl, hz⟩ := I.tuple hx
      have hlen := r'.length
      exact len_tuple pl (by simp only [List.size_toArray]; omega) ⟨.int xs.length, H, I.tok _, ⟨_, by simp only [List.size_toArray]; rw [hlen]⟩, q⟩
  | _ => exact (show False from e).elim
end
end L2
namespace L2
open PySem PySem.Spec PyProof.Rows
structure ObjM (h : Heap) (x dx C : Addr) (mA : Str → Option Value) : Prop where
  obj : h.get? x = some (PySem.W.instObj C dx)
  ns : h.Ns1 dx mA
  ne : dx ≠ x
theorem lookIn_ns {h : Heap} {dx : Addr} {mA : Str → Option Value} (n : h.Ns1 dx mA) : ∃ od, h.get? dx = some od ∧ ∀ name, PySem.W.lookIn name od = some (mA name) := by
  obtain ⟨o, es, ep, ho, hd, hk, _, hm⟩ := n
  refine ⟨o, ho, fun name => ?_⟩
  have e := hm name
  unfold nsFind findBy at e
  rw [← Array.find?_toList] at e
  unfold PySem.W.lookIn
  rw [hd]
  dsimp only
  split
  · rename_i y q
    rw [q] at e
    exact congrArg some e
  · rename_i q
    rw [q] at e
    have a : es.toList.any (·.refKey) = false := by
      rw [List.any_eq_false]
      intro y hy
      obtain ⟨z, t, hkey⟩ := hk y (Array.mem_toList_iff.mp hy)
      simp [DictEntry.refKey, hkey]
    have a' : ¬ es.toList.any (·.refKey) = true := by rw [a]; exact Bool.false_ne_true
    rw [if_neg a']
    exact congrArg some e
theorem ObjM.look {h : Heap} {x dx C : Addr} {mA : Str → Option Value} (I : ObjM h x dx C mA) : ∃ od, PySem.W.InstAt h x (PySem.W.instObj C dx) C (some od) ∧ ∀ name, PySem.W.lookIn name od = some (mA name) :=
  let ⟨od, ho, hl⟩ := lookIn_ns I.ns
  ⟨od, ⟨I.obj, rfl, rfl, ho⟩, hl⟩
section
variable {prog : Program} {w : World} {A : Around} {E : Value → Shared → Prop} {s : Shared} {K : PySem.W.Frag} {x dx C f : Addr} {mA : Str → Option Value} {name : Str} {v : Value}
theorem get_map {expr : Bool} {Q : Value → Shared → Prop} (X : K.In s.heap) (I : ObjM s.heap x dx C mA) (hg : PySem.W.plainGet K C name = true) (hh : PySem.W.hasDictIn K C = true)
    (ha : PySem.W.findIn K (.ref C) name = some none) (hv : mA name = some v) (hv' : PySem.W.handedIn v = true) (h : Q v { s with toks := s.toks + 1 }) :
    wpAny (model prog w) A (getAttr (.ref x) name expr) Q E s := by
  obtain ⟨od, J, hl⟩ := I.look
  exact PySem.W.get_value X J (PySem.W.plainGet_of hg).1 (PySem.W.findObj_own hh ha rfl (by rw [hl, hv])) hv' h
theorem get_meth {pl : Sem Bool} {Q : Value × List Value → Shared → Prop} (X : K.In s.heap) (I : ObjM s.heap x dx C mA) (hg : PySem.W.plainGet K C name = true)
    (hf : PySem.W.findIn K (.ref C) name = some (some (.ref f))) (ht : PySem.W.isFn K (.ref f) = true) (hv : mA name = none) (h : Q (.ref f, [.ref x]) s) :
    wpAny (model prog w) A (getMethod (.ref x) name pl) Q E s := by
  obtain ⟨od, J, hl⟩ := I.look
  exact PySem.W.method_fn X J (PySem.W.plainGet_of hg).1 (PySem.W.plainGet_of hg).2 hf (beq_iff_eq.mp ht) (by show (PySem.W.lookIn name od).map (·.isSome) = some false; rw [hl, hv]; rfl) h
theorem set_map {ns : List Str} {Q : Unit → Shared → Prop} (X : K.In s.heap) (I : ObjM s.heap x dx C mA)
    (hs : PySem.W.findIn K (.ref C) "__setattr__" = some (some (.builtin "object.__setattr__"))) (hp : PySem.W.plainOver K C = true) (ht : PySem.W.takerIn K C name = some none) (hh : PySem.W.hasDictIn K C = true)
    (hw : PySem.Within mA ns) (hsz : ns.length ≤ sizeLine)
    (h : ∀ h', ObjM h' x dx C (fun y => if y = name then some v else mA y) → Heap.SameBut dx s.heap h' → Q () { s with heap := h', toks := s.toks + 2 }) :
    wpAny (model prog w) A (setAttr (.ref x) name v) Q E s := by
  obtain ⟨od, J, hl⟩ := I.look
  refine PySem.W.set_plain X J hs (PySem.W.osa_open (s := { s with toks := s.toks + 1 }) (r := none) X J hp ht fun b => ?_)
  obtain ⟨cd, hc, hd'⟩ := PySem.W.any_some hh
  have hx : s.heap.get? x = some ⟨.ref C, some dx, .plain, #[]⟩ := I.obj
  refine wpAny_bind (wpAny_pure (wpAny_bind (wpAny_bind (wpAny_loadPart hx (wpAny_bind (PySem.W.Looks.here (s := { s with toks := s.toks + 1 }) (PySem.W.looks_clsIn X hc) ?_))))))
  rw [hd']
  refine wpAny_pure (a := some dx) (wpAny_bind (wpAny_pure (wpAny_bind ?_)))
  refine wpAny_nsSet1 (s := { s with toks := s.toks + 1 }) I.ns fun h' hn2 hs2 => ?_
  obtain ⟨oD, esD, epD, hoD, hdD, hcD⟩ := hn2.count (PySem.Within.cons name v hw)
  refine wpAny_bind (wpAny_lookBehind hoD (by rw [hdD]; exact pastItsLine_dict (Nat.le_trans hcD (by rw [List.length_cons]; omega))) ?_)
  exact wpAny_pure (h _ ⟨(hs2.2 _ (Ne.symm I.ne)).trans I.obj, hn2, I.ne⟩ hs2)
theorem make_map {R : Result → Shared → Prop} {vs : List Value} {kw : List (Str × Value)} (X : K.In s.heap) (hm : PySem.W.makesIn K C = true)
    (hi : PySem.W.findIn K (.ref C) "__init__" = some (some (.ref f))) (hf : PySem.W.typeIn K (.ref f) = some (.type "function"))
    (h : codeAny (model prog w) (A.under (.builtin "type.__call__" ⟨.ref C :: vs, kw⟩)) (.call (.ref f) ⟨.ref (s.heap.objs.size + 1) :: vs, kw⟩) (PySem.W.InitBack (s.heap.objs.size + 1) R)
      { s with heap := (s.heap.push PySem.W.emptyDict).push (PySem.W.instObj C s.heap.objs.size) }) :
    codeAny (model prog w) A (.call (.ref C) ⟨vs, kw⟩) R s := by
  obtain ⟨hh, g, d, t, os⟩ := s
  exact PySem.W.make_core (PySem.W.makes_of X hm) (PySem.W.looks_findIn X hi) (fun self => PySem.W.bind_fn X self hf) (.inl rfl) h
end
def putF (f : Str) (v : V) : List (Str × V) → List (Str × V)
  | [] => [(f, v)]
  | (g, x) :: r => if g = f then (g, v) :: r else (g, x) :: putF f v r
theorem lookup_putF (f g : Str) (v : V) : ∀ fs : List (Str × V), (putF f v fs).lookup g = if g = f then some v else fs.lookup g
  | [] => by
    show List.lookup g [(f, v)] = _
    by_cases h : g = f
    · have hb : (g == f) = true := beq_iff_eq.mpr h
      simp only [List.lookup, hb, if_pos h]
    · have hb : (g == f) = false := beq_eq_false_iff_ne.mpr h
      simp only [List.lookup, hb, if_neg h]
  | (k, x) :: r => by
    have ih := lookup_putF f g v r
    rw [show putF f v ((k, x) :: r) = (if k = f then (k, v) :: r else (k, x) :: putF f v r) from rfl]
    by_cases hk : k = f
    · rw [if_pos hk]
      by_cases h : g = k
      · have hb : (g == k) = true := beq_iff_eq.mpr h
        simp only [List.lookup, hb, if_pos (h.trans hk)]
      · have hb : (g == k) = false := beq_eq_false_iff_ne.mpr h
        simp only [List.lookup, hb, if_neg (fun e : g = f => h (e.trans hk.symm))]
    · rw [if_neg hk]
      by_cases h : g = k
      · have hb : (g == k) = true := beq_iff_eq.mpr h
        simp only [List.lookup, hb, if_neg (fun e : g = f => hk (h.symm.trans e))]
      · have hb : (g == k) = false := beq_eq_false_iff_ne.mpr h
        simp only [List.lookup, hb]
        exact ih
theorem keys_putF (f : Str) (v : V) : ∀ fs : List (Str × V), f ∈ (putF f v fs).map (·.1) ∧ ∀ g, g ∈ fs.map (·.1) → g ∈ (putF f v fs).map (·.1)
  | [] => ⟨by simp [putF], fun g h => by simp at h⟩
  | (k, x) :: r => by
    obtain ⟨i1, i2⟩ := keys_putF f v r
    rw [show putF f v ((k, x) :: r) = (if k = f then (k, v) :: r else (k, x) :: putF f v r) from rfl]
    by_cases hk : k = f
    · rw [if_pos hk]
      subst hk
      exact ⟨by simp, fun g h => by simpa using h⟩
    · rw [if_neg hk]
      refine ⟨?_, fun g h => ?_⟩
      · rw [List.map_cons]
        exact List.mem_cons_of_mem _ i1
      · rw [List.map_cons] at h ⊢
        rcases List.mem_cons.mp h with e | e
        · exact List.mem_cons.mpr (.inl e)
        · exact List.mem_cons_of_mem _ (i2 g e)
theorem length_putF (f : Str) (v : V) : ∀ fs : List (Str × V), (putF f v fs).length ≤ fs.length + 1
  | [] => by simp [putF]
  | (k, x) :: r => by
    have ih := length_putF f v r
    rw [show putF f v ((k, x) :: r) = (if k = f then (k, v) :: r else (k, x) :: putF f v r) from rfl]
    by_cases hk : k = f
    · rw [if_pos hk, List.length_cons, List.length_cons]; omega
    · rw [if_neg hk, List.length_cons, List.length_cons]; omega
theorem RelO.some_of {v : V} {o : Option Value} (r : RelO (some v) o) : ∃ u, o = some u ∧ RelV v u := by
  cases o with
  | none => exact (show False from r).elim
  | some u => exact ⟨u, rfl, r⟩
theorem RelO.none_of {o : Option Value} (r : RelO none o) : o = none := by
  cases o with
  | none => rfl
  | some u => exact (show False from r).elim
theorem handed_of {v : V} {u : Value} (r : RelV v u) : PySem.W.handedIn u = true := by
  cases v with
  | non => cases (show u = Value.none from r); rfl
  | bl b => cases (show u = Value.bool b from r); rfl
  | int i => obtain ⟨t, e⟩ := (show ∃ t, u = Value.int i t from r); cases e; rfl
  | str x => obtain ⟨t, e⟩ := (show ∃ t, u = Value.str x t from r); cases e; rfl
  | byt b => obtain ⟨t, e⟩ := (show ∃ t, u = Value.bytes b t from r); cases e; rfl
  | flt b => obtain ⟨t, e⟩ := (show ∃ t, u = Value.float b t from r); cases e; rfl
  | ref a => cases (show u = Value.ref a from r); rfl
  | ty n => cases (show u = Value.type n from r); rfl
section
variable {P : Program} {w : World} {H H' : Hp} {h h' : Heap} {a C dx : Addr} {fs fs' : List (Str × V)}
theorem ins_get (hok : HOk P w H h) (e : H a = some (.ins C dx fs)) : ∃ mA, ObjM h a dx C mA ∧ (∀ f, RelO (fs.lookup f) (mA f)) ∧ PySem.Within mA (fs.map (·.1)) ∧ fs.length ≤ 1000 ∧ H dx = some (.own a) := by
  obtain ⟨d, z, ne, ob, mA, n, r, q⟩ := (show ObjOk P w H h a (.ins C dx fs) from hok a _ e)
  exact ⟨mA, ⟨ob, n, ne⟩, r, q, z, d⟩
end
structure Cls (K : PySem.W.Frag) (C : Addr) : Prop where
  pg : PySem.W.plainGet K C Str.empty = true
  hd : PySem.W.hasDictIn K C = true
  po : PySem.W.plainOver K C = true
  sa : PySem.W.findIn K (.ref C) "__setattr__" = some (some (.builtin "object.__setattr__"))
theorem Cls.get {K : PySem.W.Frag} {C : Addr} (c : Cls K C) (f : Str) : PySem.W.plainGet K C f = true := c.pg
def NoAttr (K : PySem.W.Frag) (C : Addr) (f : Str) : Prop := PySem.W.findIn K (.ref C) f = some none
theorem NoAttr.taker {K : PySem.W.Frag} {C : Addr} {f : Str} (n : NoAttr K C f) : PySem.W.takerIn K C f = some none := by
  unfold PySem.W.takerIn
  rw [show PySem.W.findIn K (.ref C) f = some none from n]
  rfl
structure Con (K : PySem.W.Frag) (C : Addr) (f : Str) (v : V) (u : Value) : Prop where
  at_ : PySem.W.findIn K (.ref C) f = some (some u)
  rel : RelV v u
  get : PySem.W.specialIn K u "__get__" = some none
  cp : PySem.W.copiedNames.contains f = false
structure Meth (K : PySem.W.Frag) (C : Addr) (m : Str) (f : Addr) : Prop where
  at_ : PySem.W.findIn K (.ref C) m = some (some (.ref f))
  fn : PySem.W.isFn K (.ref f) = true
  kp : PySem.W.keepIn K (.ref f) = true
section
variable {X : Cx} {pins : List (Addr × Obj)} {σ : St} {H : Hp} {s : Shared} {a C dx : Addr} {fs : List (Str × V)} {f : Str} {v : V} {A : Around} {E : Value → Shared → Prop}
theorem getattr_ok {b : Bool} {Q : Value → Shared → Prop} (I : Inv X pins σ H s) (e : H a = some (.ins C dx fs)) (c : Cls X.K C) (n : NoAttr X.K C f) (l : fs.lookup f = some v)
    (h : ∀ u s', Inv X pins σ H s' → RelV v u → Q u s') : wpAny (model X.prog X.w) A (getAttr (.ref a) f b) Q E s := by
  obtain ⟨mA, O, r, _, _, _⟩ := ins_get I.hok e
  obtain ⟨u, hu, ru⟩ := RelO.some_of (v := v) (o := mA f) (by rw [← l]; exact r f)
  exact get_map I.kIn O (c.get f) c.hd n hu (handed_of ru) (h u _ (I.tok _) ru)
theorem getmeth_ok {m : Str} {g : Addr} {pl : Sem Bool} {Q : Value × List Value → Shared → Prop} (I : Inv X pins σ H s) (e : H a = some (.ins C dx fs)) (c : Cls X.K C) (k : Meth X.K C m g) (l : fs.lookup m = none)
    (h : Q (.ref g, [.ref a]) s) : wpAny (model X.prog X.w) A (getMethod (.ref a) m pl) Q E s := by
  obtain ⟨mA, O, r, _, _, _⟩ := ins_get I.hok e
  have hn : mA m = none := RelO.none_of (by rw [← l]; exact r m)
  exact get_meth I.kIn O (c.get m) k.at_ k.fn hn h
theorem setattr_ok {y : V} {u : Value} {Q : Unit → Shared → Prop} (I : Inv X pins σ H s) (e : H a = some (.ins C dx fs)) (c : Cls X.K C) (n : NoAttr X.K C f) (hl : fs.length < 1000) (ry : RelV y u)
    (h : ∀ s', Inv X pins σ (upd H a (.ins C dx (putF f y fs))) s' → Q () s') : wpAny (model X.prog X.w) A (setAttr (.ref a) f u) Q E s := by
  obtain ⟨mA, O, r, wi, _, ho⟩ := ins_get I.hok e
  have hz : (fs.map (·.1)).length ≤ sizeLine := by rw [List.length_map, sizeLine_eq]; omega
  refine set_map I.kIn O c.sa c.po n.taker c.hd wi hz fun h' O' sb => h _ ?_
  have hd : ∃ o, h'.get? dx = some o := let ⟨o, _, _, e', _⟩ := O'.ns; ⟨o, e'⟩
  refine I.write (x := a) (e := dx) (by rw [e]; exact True.intro) (.inr ho) (fun b q hb z => (sb.2 b hb).trans z) hd ?_
  refine ⟨by rw [upd_ne O.ne]; exact ho, ?_, O.ne, O'.obj, _, O'.ns, fun g => ?_, fun g hg => ?_⟩
  · have := length_putF f y fs; omega
  · show RelO ((putF f y fs).lookup g) (if g = f then some u else mA g)
    rw [lookup_putF]
    by_cases q : g = f
    · rw [if_pos q, if_pos q]; exact ry
    · rw [if_neg q, if_neg q]; exact r g
  · by_cases q : g = f
    · rw [q]; exact (keys_putF f y fs).1
    · refine (keys_putF f y fs).2 g (wi g fun z => hg ?_)
      show (if g = f then some u else mA g) = none
      rw [if_neg q]; exact z
theorem Inv.made (I : Inv X pins σ H s) : Inv X pins σ (upd (upd H s.heap.objs.size (.own (s.heap.objs.size + 1))) (s.heap.objs.size + 1) (.ins C s.heap.objs.size []))
    { s with heap := (s.heap.push PySem.W.emptyDict).push (PySem.W.instObj C s.heap.objs.size) } := by
  have e1 : (s.heap.push PySem.W.emptyDict).get? s.heap.objs.size = some PySem.W.emptyDict := Heap.get?_push_size s.heap rfl
  have e2 : ((s.heap.push PySem.W.emptyDict).push (PySem.W.instObj C s.heap.objs.size)).get? (s.heap.objs.size + 1) = some (PySem.W.instObj C s.heap.objs.size) := by
    have := Heap.get?_push_size (s.heap.push PySem.W.emptyDict) (o := PySem.W.instObj C s.heap.objs.size) rfl
    rwa [Heap.size_push] at this
  have e3 : (s.heap.push PySem.W.emptyDict).Ns s.heap.objs.size (fun _ => none) := ⟨PySem.W.emptyDict, #[], _, e1, rfl, (fun e he => absurd he (by simp)), fun _ => rfl⟩
  have I1 := I.laid (a := s.heap.objs.size) (o := .own (s.heap.objs.size + 1)) (h' := s.heap.push PySem.W.emptyDict) (t' := s.toks) (fun b u q => Heap.get?_push_of_some _ q) (Nat.le_refl _) ⟨_, e1⟩
  refine I1.laid (a := s.heap.objs.size + 1) (o := .ins C s.heap.objs.size []) (t' := s.toks) (fun b u q => Heap.get?_push_of_some _ q) (Nat.le_of_eq (Heap.size_push _ _)) ?_
  have ne : s.heap.objs.size ≠ s.heap.objs.size + 1 := Nat.ne_of_lt (Nat.lt_succ_self _)
  refine ⟨by rw [upd_ne ne, upd_same], Nat.zero_le _, ne, e2, fun _ => none, (Heap.Ns1.of_empty e3).at fun o q => Heap.get?_push_of_some _ q, fun _ => True.intro, fun y hy => absurd rfl hy⟩
theorem attr_of {prog : Program} {w : World} {env : Env} {e : Expr} {f : Str} {pos : Pos} {s : Shared} {Q : Value → Shared → Prop} (hb : attributeBase e f env (eval e env) = eval e env)
    (h : wpAny (model prog w) A (eval e env) (fun o s₁ => wpAny (model prog w) A (getAttr o f true) Q E s₁) E s) : wpAny (model prog w) A (eval (.Attribute e f pos) env) Q E s :=
  Attribute_any_ h (by rw [arm_eval_Attribute, hb])
end
def tFld (K : PySem.W.Frag) (ta : TE) (f : Str) : TE := fun σ H Q => ta σ H fun x H1 => ∃ a C dx fs v, x = .ref a ∧ H1 a = some (.ins C dx fs) ∧ Cls K C ∧ NoAttr K C f ∧ fs.lookup f = some v ∧ Q v H1
def sFld (K : PySem.W.Frag) (ta tv : TE) (f : Str) : TS := fun D σ H => tv σ H fun y H1 => ta σ H1 fun x H2 => ∃ a C dx fs, x = .ref a ∧ H2 a = some (.ins C dx fs) ∧ Cls K C ∧ NoAttr K C f ∧ fs.length < 1000 ∧
  D.nx σ (upd H2 a (.ins C dx (putF f y fs)))
section
variable {X : Cx} {o e value : Expr} {f : Str} {pos pos' tpos : Pos} {ta tv : TE}
theorem pe_fld (he : PE X e ta) (hb : attributeBase e f X.env (eval e X.env) = eval e X.env) : PE X (.Attribute e f pos) (tFld X.K ta f) := by
  intro pins s σ H Q I h
  refine attr_of hb (thn (he pins s σ H _ I h) fun u s1 ⟨x, H1, I1, rx, a, C, dx, fs, v, ex, ea, c, n, l, q⟩ => ?_)
  subst ex
  obtain rfl : u = Value.ref a := rx
  exact getattr_ok I1 ea c n l fun u' s2 I2 ru => ⟨v, H1, I2, ru, q⟩
theorem ps_fld (ha : PE X o ta) (hv : PE X value tv) (hs : swapsWith value (some (.Attribute o f pos')) pos.line X.env = pure false) : PS X (.Assign [.Attribute o f pos'] value pos) (sFld X.K ta tv f) := by
  intro pins s σ H D I h
  refine plainObj_wpAny_Assign_Attribute (thn (hv pins s σ H _ I h) fun u s1 ⟨y, H1, I1, ry, q⟩ => thn (ha pins s1 σ H1 _ I1 q) fun ov s2 ⟨x, H2, I2, rx, a, C, dx, fs, ex, ea, c, n, l, q2⟩ => ?_) hs
  subst ex
  obtain rfl : ov = Value.ref a := rx
  exact setattr_ok I2 ea c n l ry fun s3 I3 => ⟨σ, _, I3, q2⟩
end
section
variable {X : Cx} {pins : List (Addr × Obj)} {σ : St} {H : Hp} {s : Shared} {A : Around} {E : Value → Shared → Prop} {Q : Value → Shared → Prop} {c : Value} {b : Bool}
inductive TyOf (K : PySem.W.Frag) (H : Hp) : V → Value → Prop where
  | non : TyOf K H .non (.type "NoneType")
  | bl (x : Bool) : TyOf K H (.bl x) (.type "bool")
  | int (i : Int) : TyOf K H (.int i) (.type "int")
  | str (x : Str) : TyOf K H (.str x) (.type "str")
  | flt (x : UInt64) : TyOf K H (.flt x) (.type "float")
  | lst {a : Addr} {xs : List V} (e : H a = some (.lst xs)) : TyOf K H (.ref a) (.type "list")
  | frz {a : Addr} {o : Obj} {xs : List V} (e : H a = some (.frz o (.lst xs))) : TyOf K H (.ref a) (.type "list")
  | tup {a : Addr} {xs : List V} (e : H a = some (.tup xs)) : TyOf K H (.ref a) (.type "tuple")
  | dK {a : Addr} {kvs : List (Key × V)} (e : H a = some (.dK kvs)) : TyOf K H (.ref a) (.type "dict")
  | dT {a : Addr} {kvs : List (List Key × V)} (e : H a = some (.dT kvs)) : TyOf K H (.ref a) (.type "dict")
  | ins {a C dx : Addr} {fs : List (Str × V)} (e : H a = some (.ins C dx fs)) (cl : Cls K C) (ha : PySem.W.findIn K (.ref C) "__class__" = some (some (.builtin "object.__class__")))
      (hn : PySem.W.specialIn K (.builtin "object.__class__") "__get__" = some (some (.builtin "getset_descriptor.__get__"))) (htk : PySem.W.takesIn K (.builtin "object.__class__") = some true)
      (hm : PySem.W.mroIn K C (.type "object") = some true) : TyOf K H (.ref a) (.ref C)
theorem isinst_ok {x : V} {u t : Value} (I : Inv X pins σ H s) (rx : RelV x u) (ty : TyOf X.K H x t) (e : PySem.W.kitOne X.K t c = some b) (h : ∀ tk, Q (.bool b) { s with toks := tk }) :
    wpAny (model X.prog X.w) A (call (.builtin "isinstance") [u, c]) Q E s := by
  cases ty with
  | non => cases (show u = Value.none from rx); exact PySem.W.kia_one PySem.W.kitx_none I.kIn True.intro e (fun z => nomatch z) h
  | bl y => cases (show u = Value.bool y from rx); exact PySem.W.kia_one PySem.W.kitx_bool I.kIn True.intro e (fun z => nomatch z) h
  | int i => obtain ⟨t, q⟩ := (show ∃ t, u = Value.int i t from rx); cases q; exact PySem.W.kia_one PySem.W.kitx_int I.kIn True.intro e (fun z => nomatch z) h
  | str y => obtain ⟨t, q⟩ := (show ∃ t, u = Value.str y t from rx); cases q; exact PySem.W.kia_one PySem.W.kitx_str I.kIn True.intro e (fun z => nomatch z) h
  | flt y => obtain ⟨t, q⟩ := (show ∃ t, u = Value.float y t from rx); cases q; exact PySem.W.kia_one PySem.W.kitx_float I.kIn True.intro e (fun z => nomatch z) h
  | @lst a xs ea =>
    cases (show u = Value.ref a from rx)
    obtain ⟨_, _, n, _, h1⟩ := (show ObjOk X.prog X.w H s.heap a (.lst xs) from I.hok a _ ea)
    exact PySem.W.kia_one PySem.W.kitx_list I.kIn ⟨_, h1, rfl⟩ e (fun z => nomatch z) h
  | @frz a ob xs ea =>
    cases (show u = Value.ref a from rx)
    obtain ⟨_, _, _, n, _, h1⟩ := (show ObjOk X.prog X.w H s.heap a (.frz ob (.lst xs)) from I.hok a _ ea)
    exact PySem.W.kia_one PySem.W.kitx_list I.kIn ⟨_, h1, rfl⟩ e (fun z => nomatch z) h
  | @tup a xs ea =>
    cases (show u = Value.ref a from rx)
    obtain ⟨_, _, _, p⟩ := (show ObjOk X.prog X.w H s.heap a (.tup xs) from I.hok a _ ea)
    obtain ⟨o, h1, h2, _⟩ := p
    exact PySem.W.kia_one PySem.W.kitx_tuple I.kIn ⟨o, h1, h2⟩ e (fun z => nomatch z) h
  | @dK a kvs ea =>
    cases (show u = Value.ref a from rx)
    obtain ⟨_, _, vs, _, p⟩ := (show ObjOk X.prog X.w H s.heap a (.dK kvs) from I.hok a _ ea)
    obtain ⟨o, es, ep, h1, h2, _⟩ := p
    exact PySem.W.kia_one PySem.W.kitx_dict I.kIn ⟨o, h1, h2.1⟩ e (fun z => nomatch z) h
  | @dT a kvs ea =>
    cases (show u = Value.ref a from rx)
    obtain ⟨_, _, xs, _, o, es, ep, h1, h2, _⟩ := (show ObjOk X.prog X.w H s.heap a (.dT kvs) from I.hok a _ ea)
    exact PySem.W.kia_one PySem.W.kitx_dict I.kIn ⟨o, h1, h2.1⟩ e (fun z => nomatch z) h
  | @ins a C dx fs ea cl ha hn htk hm =>
    cases (show u = Value.ref a from rx)
    obtain ⟨mA, O, _⟩ := ins_get I.hok ea
    obtain ⟨od, J, _⟩ := O.look
    exact PySem.W.kia_one (PySem.W.kitx_own (cl.get _) cl.hd ha hn htk hm) I.kIn J e (fun z => nomatch z) h
end
end L2
namespace L2
open PySem PySem.Spec PyProof.Rows
structure Room (k : Nat) (A : Around) : Prop where
  hd : A.handled = none
  dp : A.depth + 3 * k + 5 < recursionLimit
  un : A.units + 16 * k + 200 < cLine
theorem Room.mono {j k : Nat} {A : Around} (r : Room k A) (h : j ≤ k) : Room j A := ⟨r.hd, by have := r.dp; omega, by have := r.un; omega⟩
theorem Room.deeper {k : Nat} {A : Around} (r : Room (k + 1) A) (env : Env) : Room k (A.deeper env) :=
  ⟨r.hd, by have := r.dp; show A.depth + 1 + 3 * k + 5 < _; omega, by have := r.un; show A.units + 3 + 16 * k + 200 < _; omega⟩
theorem Room.in1 {k : Nat} {A : Around} (r : Room (k + 1) A) : Room k A.in1 :=
  ⟨r.hd, by have := r.dp; show A.depth + 3 * k + 5 < _; omega, by have := r.un; show A.units + 1 + 16 * k + 200 < _; omega⟩
theorem make_depth {A : Around} {C : Addr} {us : List Value} {kw : List (Str × Value)} : (A.under (.builtin "type.__call__" ⟨.ref C :: us, kw⟩)).depth = A.depth + 1 := by
  first | rfl | simp [Around.under, Code.weight, Code.isCreation, Code.isGuard, Code.isCaller, Code.frames, Code.isFrame, guardIds]
theorem make_units {A : Around} {C : Addr} {us : List Value} {kw : List (Str × Value)} : (A.under (.builtin "type.__call__" ⟨.ref C :: us, kw⟩)).units = A.units + 1 := by
  first | rfl | simp [Around.under, Code.cUnits, Code.frames, Code.isFrame]
theorem Room.make {k : Nat} {A : Around} (r : Room (k + 1) A) (C : Addr) (us : List Value) (kw : List (Str × Value)) : Room k (A.under (.builtin "type.__call__" ⟨.ref C :: us, kw⟩)) :=
  ⟨r.hd, by have := r.dp; rw [make_depth]; omega, by have := r.un; rw [make_units]; omega⟩
theorem Room.depth {k : Nat} {A : Around} (r : Room k A) : A.depth < recursionLimit := by have := r.dp; omega
theorem Room.units {k : Nat} {A : Around} (r : Room k A) : A.units + 64 < cLine := by have := r.un; omega
def tNil : TA := fun _ H Q => Q [] H
def tCons (ta : TE) (tr : TA) : TA := fun σ H Q => ta σ H fun x H1 => tr σ H1 fun xs H2 => Q (x :: xs) H2
section
variable {X : Cx} {e : Expr} {es : List Expr} {te : TE} {t : TA} {pos : Pos}
theorem pa_nil : PA X [] tNil := fun _ _ _ _ H Q I h => Calls.spliced_nil ⟨[], H, I, .nil, h⟩
theorem pa_cons (ha : PE X e te) (hr : PA X es t) (hs : starEach (e :: es) X.env = (false, eval e X.env) :: starEach es X.env := by rfl) : PA X (e :: es) (tCons te t) := by
  intro pos pins s σ H Q I h
  rw [hs]
  show wpAny _ _ (spliced ((false, eval e X.env) :: backTo pos (starEach es X.env))) _ _ s
  refine Calls.spliced_cons (thn (ha pins s σ H _ I h) fun u s1 ⟨x, H1, I1, r1, q1⟩ => ?_)
  exact thn (hr pos pins s1 σ H1 _ I1 q1) fun us s2 ⟨xs, H2, I2, r2, q2⟩ => ⟨x :: xs, H2, I2, .cons r1 r2, q2⟩
end
abbrev Sp := List V → Hp → VK → XK → Prop
abbrev CXT := List Env → Hp → Shared → XK → Value → Shared → Prop
structure Env0 (P : Program) (w : World) (K : PySem.W.Frag) (mg : Str → Option Value) (base : Heap) (A : Around) (outer : List Env) (s : Shared) (H : Hp) : Prop where
  frames : A.frames = some outer
  mod : Mod K mg base
  bs : ∀ b o, base.get? b = some o → s.heap.get? b = some o ∧ H b = none
  bsz : base.objs.size ≤ s.heap.objs.size
  funs : s.heap.FunFrames base outer
  frf : ∀ b ∈ frs outer, H b = none
  hok : HOk P w H s.heap
  bare : AllBare s.gens
def CE (outer : List Env) (P : Program) (w : World) (H : Hp) (s : Shared) (Q : VK) (u : Value) (s' : Shared) : Prop :=
  ∃ v H', s'.os = s.os ∧ AllBare s'.gens ∧ Un (frs outer) [] H H' s.heap s'.heap ∧ HOk P w H' s'.heap ∧ RelV v u ∧ Q v H'
def CR (CX : CXT) (outer : List Env) (P : Program) (w : World) (H : Hp) (s : Shared) (Q : VK) (E : XK) (r : Result) (s' : Shared) : Prop :=
  match r with
  | .ok (.ret u) => CE outer P w H s Q u s'
  | .ok _ => False
  | .error e => CX outer H s E e s'
structure FnOk (P : Program) (w : World) (K : PySem.W.Frag) (mg : Str → Option Value) (base : Heap) (CX : CXT) (k : Nat) (f : Addr) (fd : FuncData) (ps : List Str) (sp : Sp) : Prop where
  len : ∀ vs H Q E, sp vs H Q E → vs.length = ps.length
  run : ∀ (A : Around) (outer : List Env) (s : Shared) (H : Hp) (args : Args) (us : List Value) (vs : List V) (Q : VK) (E : XK), Room k A → Env0 P w K mg base A outer s H → BindsTo s fd args (ps.zip us) → Vals vs us → sp vs H Q E →
    codeAny (model P w) A (.call (.ref f) args) (CR CX outer P w H s Q E) s
theorem FnOk.mono {P : Program} {w : World} {K : PySem.W.Frag} {mg : Str → Option Value} {base : Heap} {CX : CXT} {j k : Nat} {f : Addr} {fd : FuncData} {ps : List Str} {sp : Sp} (F : FnOk P w K mg base CX j f fd ps sp) (h : j ≤ k) :
    FnOk P w K mg base CX k f fd ps sp := ⟨F.len, fun A outer s H args us vs Q E hr => F.run A outer s H args us vs Q E (hr.mono h)⟩
theorem FnOk.imp {P : Program} {w : World} {K : PySem.W.Frag} {mg : Str → Option Value} {base : Heap} {CX : CXT} {k : Nat} {f : Addr} {fd : FuncData} {ps : List Str} {sp sp' : Sp} (F : FnOk P w K mg base CX k f fd ps sp)
    (h : ∀ vs H Q E, sp' vs H Q E → sp vs H Q E) : FnOk P w K mg base CX k f fd ps sp' :=
  ⟨fun vs H Q E q => F.len vs H Q E (h _ _ _ _ q), fun A outer s H args us vs Q E hr he hb hv hs => F.run A outer s H args us vs Q E hr he hb hv (h _ _ _ _ hs)⟩
theorem Env0.make {P : Program} {w : World} {K : PySem.W.Frag} {mg : Str → Option Value} {base : Heap} {A : Around} {outer : List Env} {s : Shared} {H : Hp} (e : Env0 P w K mg base A outer s H) (C : Addr) (us : List Value) (kw : List (Str × Value)) :
    Env0 P w K mg base (A.under (.builtin "type.__call__" ⟨.ref C :: us, kw⟩)) outer s H := ⟨by first | exact e.frames | (simpa [Around.under, Code.envs, Code.isFrame, pushEnvs] using e.frames), e.mod, e.bs, e.bsz, e.funs, e.frf, e.hok, e.bare⟩
theorem Env0.in1 {P : Program} {w : World} {K : PySem.W.Frag} {mg : Str → Option Value} {base : Heap} {A : Around} {outer : List Env} {s : Shared} {H : Hp} (e : Env0 P w K mg base A outer s H) :
    Env0 P w K mg base A.in1 outer s H := ⟨e.frames, e.mod, e.bs, e.bsz, e.funs, e.frf, e.hok, e.bare⟩
section
variable {X : Cx} {pins : List (Addr × Obj)} {σ : St} {H : Hp} {s s' : Shared}
theorem Inv.env0 (I : Inv X pins σ H s) : Env0 X.prog X.w X.K X.mg X.base X.A X.stack s H :=
  ⟨I.ok.frames, I.ok.mod, I.bs, Nat.le_trans I.ok.bsz I.sz, I.stack, I.stkFree, I.hok, I.bare⟩
theorem Inv.after {Q : VK} {u : Value} (I : Inv X pins σ H s) (h : CE X.stack X.prog X.w H s Q u s') : EP X pins σ Q u s' := by
  obtain ⟨v, H', os, bare, un, hok, r, q⟩ := h
  obtain ⟨hh, g, d, t, os'⟩ := s'
  obtain rfl : os' = s.os := os
  exact ⟨v, H', I.call (h' := hh) (g' := g) (d' := d) (t' := t) (ch := []) un hok bare (fun b z => absurd z (by simp)), r, q⟩
end
def tCall (sp : Sp) (dvs : List V) (E : XK) (t : TA) : TE := fun σ H Q => t σ H fun vs H1 => sp (vs ++ dvs) H1 Q E
def tMeth (C : Addr) (m : Str) (sp : Sp) (dvs : List V) (E : XK) (ta : TE) (t : TA) : TE := fun σ H Q => ta σ H fun x H1 => ∃ a dx fs, x = .ref a ∧ H1 a = some (.ins C dx fs) ∧ fs.lookup m = none ∧
  t σ H1 fun vs H2 => sp (x :: (vs ++ dvs)) H2 Q E
def tMake (C : Addr) (sp : Sp) (dvs : List V) (E : XK) (t : TA) : TE := fun σ H Q => t σ H fun vs H1 => ∀ x dx, H1 x = none → H1 dx = none → dx ≠ x →
  sp (.ref x :: (vs ++ dvs)) (upd (upd H1 dx (.own x)) x (.ins C dx [])) (fun v H2 => v = .non ∧ Q (.ref x) H2) E
def Binds (K : PySem.W.Frag) (fd : FuncData) (ps : List Str) (ds : List Value) : Prop :=
  ∀ (s : Shared) (us : List Value), K.In s.heap → (us ++ ds).length = ps.length → BindsTo s fd ⟨us, []⟩ (ps.zip (us ++ ds))
theorem Binds.all {K : PySem.W.Frag} {fd : FuncData} {ps : List Str} (h : ∀ us : List Value, us.length = ps.length → bindArgs fd ⟨us, []⟩ = pure (ps.zip us)) : Binds K fd ps [] := fun s us _ hl => by
  rw [List.append_nil] at hl ⊢
  exact .of_eq (h us hl)
def Passes (CX : CXT) (X : Cx) (E : XK) : Prop := ∀ (pins : List (Addr × Obj)) (σ : St) (H : Hp) (s : Shared) (e : Value) (s' : Shared), Inv X pins σ H s → CX X.stack H s E e s' → X.xe e s'
section
variable {X : Cx} {CX : CXT} {k : Nat} {f C : Addr} {fd : FuncData} {ps : List Str} {sp : Sp} {dvs : List V} {ds : List Value} {E : XK} {x m : Str} {p pos apos : Pos} {e o : Expr} {es : List Expr} {ta : TE} {t : TA}
theorem run_fn {pins : List (Addr × Obj)} {σ : St} {H : Hp} {s : Shared} {Q : VK} {us : List Value} {vs : List V} (F : FnOk X.prog X.w X.K X.mg X.base CX k f fd ps sp) (hr : Room k X.A) (hb : Binds X.K fd ps ds) (hd : Vals dvs ds) (hx : Passes CX X E)
    (I : Inv X pins σ H s) (r : Vals vs us) (h : sp (vs ++ dvs) H Q E) : wpAny (model X.prog X.w) X.A (call (.ref f) us) (EP X pins σ Q) X.xe s := by
  have r2 : Vals (vs ++ dvs) (us ++ ds) := r.append hd
  have hl : (us ++ ds).length = ps.length := by rw [← r2.length]; exact F.len _ _ _ _ h
  refine wpAny_call (codeAny_mono (F.run X.A X.stack s H ⟨us, []⟩ (us ++ ds) (vs ++ dvs) Q E hr I.env0 (hb s us I.kIn hl) r2 h) fun r s' hq => ?_)
  cases r with
  | error e => exact hx pins σ H s e s' I hq
  | ok fl =>
    cases fl with
    | ret u => exact I.after hq
    | next => exact False.elim hq
    | brk => exact False.elim hq
    | cont => exact False.elim hq
theorem pe_call (F : FnOk X.prog X.w X.K X.mg X.base CX k f fd ps sp) (hr : Room k X.A) (hg : Gl X x) (hm : X.mg x = some (.ref f)) (hk : PySem.W.keepIn X.K (.ref f) = true) (hb : Binds X.K fd ps ds) (hd : Vals dvs ds) (hx : Passes CX X E)
    (ha : PA X (e :: es) t) (hdb : (x == ("__debug__" : Str)) = false := by decide) (he : starEach (e :: es) X.env = (false, eval e X.env) :: starEach es X.env := by rfl) (hpl : (backTo pos (starEach es X.env)).any (·.1) = false := by rfl) :
    PE X (.Call (.Name x p) (e :: es) [] pos) (tCall sp dvs E t) := by
  intro pins s σ H Q I h
  refine wpAny_Call_Name_kw (ld_glob I hg hm ?_ hdb)
  refine PySem.W.callWith_K (h₀ := X.base) I.ok.mod.kin hk (thn (ha pos pins s σ H _ I h) fun us s1 ⟨vs, H1, I1, r, q⟩ => ⟨I1.kIn, ?_⟩) he hpl
  exact run_fn F hr hb hd hx I1 r q
theorem pe_meth {pl : Sem Bool} (he : PE X o ta) (c : Cls X.K C) (hm : Meth X.K C m f) (F : FnOk X.prog X.w X.K X.mg X.base CX k f fd ps sp) (hr : Room k X.A) (hb : Binds X.K fd ps ds) (hd : Vals dvs ds) (hx : Passes CX X E) (ha : PA X (e :: es) t)
    (hst : starEach (e :: es) X.env = (false, eval e X.env) :: starEach es X.env := by rfl) (hpl : (backTo pos (starEach es X.env)).any (·.1) = false := by rfl)
    (ht : eval (.Call (.Attribute o m apos) (e :: es) [] pos) X.env = (do
      let ov ← eval o X.env
      standAt apos.atName
      let (f, first) ← holding [ov] (getMethod ov m pl)
      callWith pos f first (backTo pos (starEach (e :: es) X.env)) (backToKw pos (keywordEach [] X.env))) := by rfl) :
    PE X (.Call (.Attribute o m apos) (e :: es) [] pos) (tMeth C m sp dvs E ta t) := by
  intro pins s σ H Q I h
  refine PySem.W.methodCall_KW (pl := pl) (thn (he pins s σ H _ I h) fun u s1 ⟨x, H1, I1, rx, a, dx, fs, ex, ea, l, q⟩ => ?_) ht
  subst ex
  obtain rfl : u = Value.ref a := rx
  refine getmeth_ok I1 ea c hm l ?_
  refine PySem.W.callWith_K (first := [.ref a]) (h₀ := X.base) I.ok.mod.kin hm.kp (thn (ha pos pins s1 σ H1 _ I1 q) fun us s2 ⟨vs, H2, I2, r, q2⟩ => ⟨I2.kIn, ?_⟩) hst hpl
  exact run_fn (us := .ref a :: us) (vs := .ref a :: vs) F hr hb hd hx I2 (.cons rfl r) q2
theorem pe_meth0 {pl : Sem Bool} (he : PE X o ta) (c : Cls X.K C) (hm : Meth X.K C m f) (F : FnOk X.prog X.w X.K X.mg X.base CX k f fd ps sp) (hr : Room k X.A) (hb : Binds X.K fd ps ds) (hd : Vals dvs ds) (hx : Passes CX X E)
    (ht : eval (.Call (.Attribute o m apos) [] [] pos) X.env = (do
      let ov ← eval o X.env
      standAt apos.atName
      let (f, first) ← holding [ov] (getMethod ov m pl)
      callWith pos f first (backTo pos (starEach [] X.env)) (backToKw pos (keywordEach [] X.env))) := by rfl) :
    PE X (.Call (.Attribute o m apos) [] [] pos) (tMeth C m sp dvs E ta tNil) := by
  intro pins s σ H Q I h
  refine PySem.W.methodCall_KW (pl := pl) (thn (he pins s σ H _ I h) fun u s1 ⟨x, H1, I1, rx, a, dx, fs, ex, ea, l, q⟩ => ?_) ht
  subst ex
  obtain rfl : u = Value.ref a := rx
  refine getmeth_ok I1 ea c hm l ?_
  exact PySem.W.callWith_K0 (first := [.ref a]) I1.kIn hm.kp (run_fn (us := [.ref a]) (vs := [.ref a]) F hr hb hd hx I1 (.cons rfl .nil) q)
structure Mk (K : PySem.W.Frag) (C f : Addr) : Prop where
  makes : PySem.W.makesIn K C = true
  init : PySem.W.findIn K (.ref C) "__init__" = some (some (.ref f))
  fn : PySem.W.isFn K (.ref f) = true
  kp : PySem.W.keepIn K (.ref C) = true
theorem run_make {pins : List (Addr × Obj)} {σ : St} {H : Hp} {s : Shared} {Q : VK} {us : List Value} {vs : List V} (M : Mk X.K C f) (F : FnOk X.prog X.w X.K X.mg X.base CX k f fd ps sp) (hr : Room (k + 1) X.A) (hb : Binds X.K fd ps ds) (hd : Vals dvs ds)
    (hx : Passes CX X E) (I : Inv X pins σ H s) (r : Vals vs us)
    (h : ∀ x dx, H x = none → H dx = none → dx ≠ x → sp (.ref x :: (vs ++ dvs)) (upd (upd H dx (.own x)) x (.ins C dx [])) (fun v H2 => v = .non ∧ Q (.ref x) H2) E) :
    wpAny (model X.prog X.w) X.A (call (.ref C) us) (EP X pins σ Q) X.xe s := by
  have hq := h (s.heap.objs.size + 1) s.heap.objs.size (I.hok.fresh (Nat.le_succ _)) (I.hok.fresh (Nat.le_refl _)) (Nat.ne_of_lt (Nat.lt_succ_self _))
  have I2 := Inv.made (C := C) I
  have r2 : Vals (V.ref (s.heap.objs.size + 1) :: (vs ++ dvs)) (Value.ref (s.heap.objs.size + 1) :: (us ++ ds)) := .cons rfl (r.append hd)
  have hl : (Value.ref (s.heap.objs.size + 1) :: us ++ ds).length = ps.length := by
    have e := r2.length
    rw [F.len _ _ _ _ hq] at e
    exact e.symm
  refine wpAny_call (make_map (f := f) I.kIn M.makes M.init (beq_iff_eq.mp M.fn) (codeAny_mono (F.run _ X.stack _ _ ⟨Value.ref (s.heap.objs.size + 1) :: us, []⟩ (Value.ref (s.heap.objs.size + 1) :: (us ++ ds)) _ _ E (hr.make C us [])
    (I2.env0.make C us []) (hb _ (Value.ref (s.heap.objs.size + 1) :: us) I2.kIn hl) r2 hq) fun r s' hq' => ?_))
  cases r with
  | error e => exact hx pins σ _ _ e s' I2 hq'
  | ok fl =>
    cases fl with
    | ret u =>
      obtain ⟨v, H', I3, rv, ev, q3⟩ := I2.after hq'
      subst ev
      exact ⟨rv, ⟨V.ref (s.heap.objs.size + 1), H', I3, rfl, q3⟩⟩
    | next => exact False.elim hq'
    | brk => exact False.elim hq'
    | cont => exact False.elim hq'
theorem pe_make0 (M : Mk X.K C f) (F : FnOk X.prog X.w X.K X.mg X.base CX k f fd ps sp) (hr : Room (k + 1) X.A) (hg : Gl X x) (hm : X.mg x = some (.ref C)) (hb : Binds X.K fd ps ds) (hd : Vals dvs ds) (hx : Passes CX X E)
    (hdb : (x == ("__debug__" : Str)) = false := by decide) : PE X (.Call (.Name x p) [] [] pos) (tMake C sp dvs E tNil) := by
  intro pins s σ H Q I h
  refine wpAny_Call_Name_kw (ld_glob I hg hm ?_ hdb)
  exact PySem.W.callWith_K0 I.kIn M.kp (run_make (us := []) M F hr hb hd hx I .nil h)
end
def PK (X : Cx) (kws : List Keyword) (t : TA) : Prop :=
  ∀ (pos : Pos) (pins : List (Addr × Obj)) (s : Shared) (σ : St) (H : Hp) (Q : List V → Hp → Prop), Inv X pins σ H s → t σ H Q → wpAny (model X.prog X.w) X.A (evalAll ((backToKw pos (keywordEach kws X.env)).map (·.2))) (AP X pins σ Q) X.xe s
section
variable {X : Cx} {CX : CXT} {k : Nat} {f C : Addr} {fd : FuncData} {ps ks : List Str} {sp : Sp} {E : XK} {x m : Str} {p pos apos kpos : Pos} {e o : Expr} {es : List Expr} {kws : List Keyword} {te ta : TE} {t tk : TA} {nm : Option Str}
theorem pk_nil : PK X [] tNil := fun _ _ _ _ H Q I h => wpAny_evalAll_nil ⟨[], H, I, .nil, h⟩
theorem pk_cons (ha : PE X e te) (hr : PK X kws t) : PK X (⟨nm, e, kpos⟩ :: kws) (tCons te t) := by
  intro pos pins s σ H Q I h
  show wpAny _ _ (evalAll ((do let v ← eval e X.env; standAt pos; pure v) :: (backToKw pos (keywordEach kws X.env)).map (·.2))) _ _ s
  refine wpAny_evalAll_cons (wpAny_bind (thn (ha pins s σ H _ I h) fun u s1 ⟨x, H1, I1, r1, q1⟩ => wpAny_bind (wpAny_standAt (wpAny_pure ?_))))
  exact thn (hr pos pins s1 σ H1 _ I1 q1) fun us s2 ⟨xs, H2, I2, r2, q2⟩ => ⟨x :: xs, H2, I2, .cons r1 r2, q2⟩
structure KBinds (K : PySem.W.Frag) (fd : FuncData) (ps ks : List Str) (g : List Value → List Value → List Value) (gV : List V → List V → List V) : Prop where
  to : ∀ (s : Shared) (us ws : List Value), K.In s.heap → (g us ws).length = ps.length → BindsTo s fd ⟨us, ks.zip ws⟩ (ps.zip (g us ws))
  rel : ∀ {vs : List V} {us : List Value} {zs : List V} {ws : List Value}, Vals vs us → Vals zs ws → Vals (gV vs zs) (g us ws)
variable {g : List Value → List Value → List Value} {gV : List V → List V → List V}
end
structure FnScope (N P : List Str) (sc : Scope) : Prop where
  kind : sc.kind = .function
  co : sc.isCoroutine = false
  gen : sc.isGenerator = false
  nd : N.Nodup
  pre : N.take P.length = P
  par : ∀ x ∈ P, sc.names.lookup x = some .local ∨ sc.names.lookup x = some .cell
  nofree : ∀ y ∈ sc.names, y.2 ≠ .free
theorem bindL_out {kindOf : Str → Option NameKind} {x : Str} : ∀ {binds : List (Str × Value)} {m : Str → Option Value}, (∀ v, (x, v) ∉ binds) → bindL kindOf binds m x = m x
  | [], _, _ => rfl
  | (n, v) :: r, m, h => by
    unfold bindL
    rw [bindL_out fun w hw => h w (List.mem_cons_of_mem _ hw)]
    split
    · have : x ≠ n := by rintro rfl; exact h v List.mem_cons_self
      simp [this]
    · rfl
theorem bindC_out {kindOf : Str → Option NameKind} {x : Str} : ∀ {binds : List (Str × Value)} {m : Str → Option Value}, (∀ v, (x, v) ∉ binds) → bindC kindOf binds m x = m x
  | [], _, _ => rfl
  | (n, v) :: r, m, h => by
    unfold bindC
    rw [bindC_out fun w hw => h w (List.mem_cons_of_mem _ hw)]
    split
    · rfl
    · have : x ≠ n := by rintro rfl; exact h v List.mem_cons_self
      simp [this]
theorem bindL_get {kindOf : Str → Option NameKind} {x : Str} {v : Value} : ∀ {P : List Str} {vs : List Value} {i : Nat} {m : Str → Option Value}, P.Nodup → P[i]? = some x → vs[i]? = some v → kindOf x = some .local →
    bindL kindOf (P.zip vs) m x = some v
  | [], _, _, _, _, h, _, _ => by simp at h
  | _ :: _, [], _, _, _, _, h, _ => by simp at h
  | p :: P, w :: vs, 0, m, nd, h1, h2, hk => by
    simp at h1 h2; subst h1; subst h2
    show bindL kindOf ((p, w) :: P.zip vs) m p = _
    unfold bindL
    rw [bindL_out fun v hv => (List.nodup_cons.mp nd).1 (List.of_mem_zip hv).1, if_pos hk]
    simp
  | p :: P, w :: vs, i + 1, m, nd, h1, h2, hk => by
    show bindL kindOf ((p, w) :: P.zip vs) m x = _
    unfold bindL
    exact bindL_get (i := i) (List.nodup_cons.mp nd).2 (by simpa using h1) (by simpa using h2) hk
theorem bindC_get {kindOf : Str → Option NameKind} {x : Str} {v : Value} : ∀ {P : List Str} {vs : List Value} {i : Nat} {m : Str → Option Value}, P.Nodup → P[i]? = some x → vs[i]? = some v → kindOf x ≠ some .local →
    bindC kindOf (P.zip vs) m x = some v
  | [], _, _, _, _, h, _, _ => by simp at h
  | _ :: _, [], _, _, _, _, h, _ => by simp at h
  | p :: P, w :: vs, 0, m, nd, h1, h2, hk => by
    simp at h1 h2; subst h1; subst h2
    show bindC kindOf ((p, w) :: P.zip vs) m p = _
    unfold bindC
    rw [bindC_out fun v hv => (List.nodup_cons.mp nd).1 (List.of_mem_zip hv).1, if_neg hk]
    simp
  | p :: P, w :: vs, i + 1, m, nd, h1, h2, hk => by
    show bindC kindOf ((p, w) :: P.zip vs) m x = _
    unfold bindC
    exact bindC_get (i := i) (List.nodup_cons.mp nd).2 (by simpa using h1) (by simpa using h2) hk
def start (N : List Str) (vs : List V) : St := vs.map some ++ List.replicate (N.length - vs.length) none
def cxOf (CX : CXT) (P : Program) (w : World) (K : PySem.W.Frag) (mg : Str → Option Value) (base : Heap) (N : List Str) (qual : Str) (scope : Scope) (f : Addr) (cd : Value) (A : Around) (outer : List Env) (s : Shared) (H : Hp) (E : XK) : Cx where
  prog := P
  w := w
  K := K
  mg := mg
  base := base
  A := A.deeper (envOfC qual scope s.heap.objs.size f cd)
  N := N
  s₀ := s
  H₀ := H
  env := envOfC qual scope s.heap.objs.size f cd
  outer := outer
  stack := envOfC qual scope s.heap.objs.size f cd :: outer
  ex := []
  calm := true
  fn := fun _ => true
  pn := []
  xe := fun e s' => wpAny (model P w) (A.deeper (envOfC qual scope s.heap.objs.size f cd)) (leaving (envOfC qual scope s.heap.objs.size f cd) e) (fun _ s'' => CX outer H s E e s'') (fun e' s'' => CX outer H s E e' s'') s'
theorem cell_has {sc : Scope} {n : Nat} {x : Str} (h : sc.names.lookup x = some .cell) : ∃ c, (cellsFrom n sc.names []).lookup x = some c := by
  have q := PySem.W.cellsFrom_some sc.names n [] (.inl h)
  exact Option.isSome_iff_exists.mp q
theorem inv_start {CX : CXT} {P : Program} {w : World} {K : PySem.W.Frag} {mg : Str → Option Value} {base : Heap} {N ps : List Str} {qual : Str} {scope : Scope} {f : Addr} {cd : Value} {A : Around} {outer : List Env} {s s1 : Shared} {H : Hp} {E : XK} {us : List Value} {vs : List V}
    (S : FnScope N ps scope) (hd : A.handled = none) (e0 : Env0 P w K mg base A outer s H) (hl : vs.length = ps.length) (r : Vals vs us)
    (x : InCallC s s.heap.objs.size (bindL (envOfC qual scope s.heap.objs.size f cd).kindOf (ps.zip us) fun _ => none) (cellsFrom (s.heap.objs.size + 1) scope.names []) (bindC (envOfC qual scope s.heap.objs.size f cd).kindOf (ps.zip us) fun _ => none) s1) :
    Inv (cxOf CX P w K mg base N qual scope f cd A outer s H E) [] (start N vs) H s1 := by
  have hpl : ps.length ≤ N.length := by have := congrArg List.length S.pre; rw [List.length_take] at this; omega
  obtain ⟨h1, tk, rfl, hk⟩ := x.done
  have noA : ∀ b : Addr, b ∉ (cxOf CX P w K mg base N qual scope f cd A outer s H E).ex := fun b z => absurd (show b ∈ ([] : List Addr) from z) (by simp)
  refine ⟨⟨e0.mod, S.kind, rfl, rfl, Nat.le_refl _, fun y z c h1 h2 => ?_, fun y hy => ?_, fun y c _ h => ?_, fun _ => hd, Around.frames_deeper e0.frames, .inr ⟨rfl, rfl⟩, fun b z => absurd z (noA b), e0.bs, e0.bsz, fun b _ _ => noA b, fun b z => absurd z (noA b), e0.funs, e0.frf⟩,
    rfl, e0.bare, Un.kept hk, ⟨_, x.toInCall.ns, fun i y v h1 h2 h3 => ?_⟩, fun y c h => ⟨_, x.cell y c h⟩, e0.hok.fresh (Nat.le_refl _), fun y c h => ?_, fun p hp => absurd (show p ∈ ([] : List (Addr × Obj)) from hp) (by simp), e0.hok.kept hk, ?_⟩
  · exact name_of_addr x.apart (PySem.mem_of_lookup h1) (PySem.mem_of_lookup h2)
  · have hy : scope.names.lookup y = some .cell ∨ scope.names.lookup y = some .free := hy
    rcases hy with hy | hy
    · exact cell_has hy
    · exact absurd rfl (S.nofree _ (PySem.mem_of_lookup hy))
  · exact Nat.le_of_lt (x.above y c (PySem.mem_of_lookup h))
  · have hi : i < vs.length := by
      unfold start at h2
      by_cases hi : i < vs.length
      · exact hi
      · rw [List.getElem?_append_right (by simpa using hi)] at h2
        rw [List.getElem?_replicate] at h2
        split at h2 <;> cases h2
    have ha : vs[i]? = some v := by
      unfold start at h2
      rw [List.getElem?_append_left (by simpa using hi), List.getElem?_map] at h2
      cases e : vs[i]? with
      | none => rw [e] at h2; cases h2
      | some a => rw [e] at h2; cases h2; rfl
    obtain ⟨u, hu, rv⟩ := r.get ha
    have hp : ps[i]? = some y := by
      rw [← S.pre, List.getElem?_take_of_lt (by omega)]; exact h1
    have ndP : ps.Nodup := by rw [← S.pre]; exact S.nd.sublist (List.take_sublist _ _)
    refine ⟨u, rv, ?_⟩
    rcases S.par y (List.mem_of_getElem? hp) with k | k
    · exact .inl ⟨k, bindL_get ndP hp hu k⟩
    · obtain ⟨c, e⟩ := cell_has (n := s.heap.objs.size + 1) k
      refine .inr ⟨.inl k, c, e, ?_⟩
      have q := x.cell y c e
      rw [bindC_get ndP hp hu (by show scope.names.lookup y ≠ _; rw [k]; decide)] at q
      exact q
  · exact e0.hok.fresh (Nat.le_of_lt (x.above y c (PySem.mem_of_lookup h)))
  · unfold start
    show _ = N.length
    rw [List.length_append, List.length_map, List.length_replicate]
    omega
theorem fn_of {CX : CXT} {P : Program} {w : World} {K : PySem.W.Frag} {mg : Str → Option Value} {base : Heap} {k : Nat} {f : Addr} {name qual : Str} {params : Arguments} {body : List Stmt} {scope : Scope} {dV kV doc pm cdv ct oc : Value} {an od : Option Addr}
    {osl : Array (Option Value)} {N ps : List Str} {sp : Sp} (lk : K.lookup f = some ⟨oc, od, .func (PySem.W.fnOf name qual params body scope dV kV doc pm an cdv ct), osl⟩) (hcd : PySem.W.codeIn K cdv qual = true) (S : FnScope N ps scope)
    (len : ∀ vs H Q E, sp vs H Q E → vs.length = ps.length)
    (hbody : ∀ (A : Around) (outer : List Env) (s : Shared) (H : Hp) (vs : List V) (Q : VK) (E : XK), Room k (A.deeper (envOfC qual scope s.heap.objs.size f cdv)) → sp vs H Q E →
      ∃ t, PSs (cxOf CX P w K mg base N qual scope f cdv A outer s H E) body t ∧ t { nx := fun _ H' => Q .non H', rt := Q } (start N vs) H) :
    FnOk P w K mg base CX (k + 1) f (PySem.W.fnOf name qual params body scope dV kV doc pm an cdv ct) ps sp := by
  refine ⟨len, fun A outer s H args us vs Q E hr e0 hb r hsp => ?_⟩
  have hl := len _ _ _ _ hsp
  have KX : K.In s.heap := e0.mod.kin.keeps fun b o e => (e0.bs b o e).1
  have lim : s.heap.NoLimit := e0.mod.nolimit.keeps fun b o e => (e0.bs b o e).1
  have hkind : ∀ y ∈ ps.zip us, scope.names.lookup y.1 = some .local ∨ (scope.names.lookup y.1 = some .cell ∧ ((cellsFrom (s.heap.objs.size + 1) scope.names []).lookup y.1).isSome = true) := fun ⟨n, v⟩ hy => by
    rcases S.par n (List.of_mem_zip hy).1 with q | q
    · exact .inl q
    · exact .inr ⟨q, PySem.W.cellsFrom_some _ _ _ (.inl q)⟩
  refine codeAny_call_function hr.depth (KX _ _ lk) rfl S.co S.gen rfl (PySem.W.codeRec_of KX hcd) (hb _ _ _ _ ?_)
  refine wpAny_newFunctionEnv_cells S.kind hkind fun env he s1 x => ?_
  subst he
  refine ⟨lim.keeps x.toInCall.keep, codeAny_func ?_⟩
  obtain ⟨t, ht, hq⟩ := hbody A outer s H vs Q E (hr.deeper _) hsp
  have I : Inv (cxOf CX P w K mg base N qual scope f cdv A outer s H E) [] (start N vs) H s1 := inv_start S hr.hd e0 hl r x
  refine wpAny_mono (ht [] s1 (start N vs) H _ I hq) (fun fl s' hs => ?_) fun e s' hs => hs
  have fin : ∀ {σ' : St} {H' : Hp} {v : V} {u : Value}, Inv (cxOf CX P w K mg base N qual scope f cdv A outer s H E) [] σ' H' s' → RelV v u → Q v H' → CE outer P w H s Q u s' :=
    fun {σ' H' v u} J rv q => ⟨v, H', J.os, J.bare, J.base, J.hok, rv, q⟩
  cases fl with
  | ret u =>
    obtain ⟨v, σ', H', J, rv, q⟩ := hs
    exact fin J rv q
  | next =>
    obtain ⟨σ', H', J, q⟩ := hs
    exact fin (v := V.non) (u := Value.none) J rfl q
  | brk =>
    obtain ⟨_, _, _, q⟩ := hs
    exact False.elim q
  | cont =>
    obtain ⟨_, _, _, q⟩ := hs
    exact False.elim q
end L2
namespace L2
open PySem PySem.Spec PyProof.Rows
section
variable {X : Cx} {x : Str} {p pos : Pos} {e : Expr} {es : List Expr} {t : TA} {id T : String} {r : List V → Hp → VK → Prop}
def tCB (r : List V → Hp → VK → Prop) (t : TA) : TE := fun σ H Q => t σ H fun vs H1 => r vs H1 Q
theorem pe_callB (hc : CallR X (.builtin id) r) (hg : Gl X x) (hm : X.mg x = none) (hv : bootBuiltins x = some (.builtin id)) (ha : PA X (e :: es) t) (hn : x ≠ "__name__" := by decide) (hdb : (x == ("__debug__" : Str)) = false := by decide)
    (he : starEach (e :: es) X.env = (false, eval e X.env) :: starEach es X.env := by rfl) (hpl : (backTo pos (starEach es X.env)).any (·.1) = false := by rfl) : PE X (.Call (.Name x p) (e :: es) [] pos) (tCB r t) := by
  intro pins s σ H Q I h
  refine wpAny_Call_Name_kw (ld_blt I hg hm hv ?_ hn hdb)
  exact PyProof.Rows.callWith_builtin1 (thn (ha pos pins s σ H _ I h) fun us s1 ⟨vs, H1, I1, r1, q1⟩ => hc pins s1 σ H1 vs us Q I1 r1 q1) he hpl
theorem pe_callTy (hc : CallR X (.type T) r) (hg : Gl X x) (hm : X.mg x = none) (hv : bootBuiltins x = some (.type T)) (ha : PA X (e :: es) t) (hn : x ≠ "__name__" := by decide) (hdb : (x == ("__debug__" : Str)) = false := by decide)
    (he : starEach (e :: es) X.env = (false, eval e X.env) :: starEach es X.env := by rfl) (hpl : (backTo pos (starEach es X.env)).any (·.1) = false := by rfl) : PE X (.Call (.Name x p) (e :: es) [] pos) (tCB r t) := by
  intro pins s σ H Q I h
  refine wpAny_Call_Name_kw (ld_blt I hg hm hv ?_ hn hdb)
  exact PyProof.Rows.callWith_type1 (thn (ha pos pins s σ H _ I h) fun us s1 ⟨vs, H1, I1, r1, q1⟩ => hc pins s1 σ H1 vs us Q I1 r1 q1) he hpl
end
end L2
namespace HT
open PySem PyProof.Rows
section
open PySem.SeqAt
open PySem.AutoSeq1 (wpAny_loadPart')
open PySem.MeetsSeq PySem.MeetsSeq2 PySem.MeetsSeq3
end
section
variable {prog : Program} {w : World} {A : Around} {E : Value → Shared → Prop} {s : Shared}
theorem cat_tup {t b : Addr} {vs ws : List Value} {Q : Value → Shared → Prop} (ht : IsTup s.heap t vs.toArray) (hb : IsTup s.heap b ws.toArray) (hv : vs ≠ [])
    (h1 : ws = [] → Q (.ref t) s) (h2 : ws ≠ [] → Q (.ref s.heap.objs.size) { s with heap := s.heap.push { cls := .type "tuple", data := .seq (vs ++ ws).toArray } })
    (hsz : vs.length + ws.length ≤ sizeLine) : wpAny (model prog w) A (binaryOp .Add (.ref t) (.ref b)) Q E s := by
  obtain ⟨⟨cls, dd, data, sl⟩, ho, hc, n, hd⟩ := id ht
  obtain ⟨⟨cls2, dd2, data2, sl2⟩, ho2, hc2, n2, hd2⟩ := id hb
  simp only at hc hd hc2 hd2
  subst hc hd hc2 hd2
  have e : vs.toArray ++ ws.toArray = (vs ++ ws).toArray := by simp
  by_cases hw : ws = []
  · exact concat_meets ⟨_, ho, rfl⟩ ⟨_, ho2, rfl⟩ noFill_tuple_add seq_tuple_add PySem.F.slot_tuple_add PySem.F.entry_tuple_add (PySem.F.args_tuple_add_2 _ _)
      (tuple_addW1 t b vs.toArray ws.toArray n n2 dd dd2 sl sl2 (by simpa using hv) (by simp [hw])) ⟨ho, ho2, h1 hw⟩
  · refine concat_meets ⟨_, ho, rfl⟩ ⟨_, ho2, rfl⟩ noFill_tuple_add seq_tuple_add PySem.F.slot_tuple_add PySem.F.entry_tuple_add (PySem.F.args_tuple_add_2 _ _)
      (tuple_addW2 t b vs.toArray ws.toArray n n2 dd dd2 sl sl2 (by simpa using hv) (by simpa using hw) (by rw [List.size_toArray, List.size_toArray]; exact hsz)) ⟨ho, ho2, ?_⟩
    rw [e]
    exact h2 hw
def sIx (n d : Nat) : Option Int → Nat
  | none => d
  | some v => if v < 0 then (v + (n : Int)).toNat else min v.toNat n
theorem sIx_le (n d : Nat) (hd : d ≤ n) (o : Option Int) : sIx n d o ≤ n := by
  cases o with
  | none => exact hd
  | some v =>
    show (if v < 0 then (v + (n : Int)).toNat else min v.toNat n) ≤ n
    by_cases hv : v < 0
    · rw [if_pos hv]; omega
    · rw [if_neg hv]; exact Nat.min_le_right _ _
theorem clip_eq (v : Int) (n d : Nat) : (if v < 0 then max (v + (n : Int)) 0 else min v (n : Int)) = ((sIx n d (some v) : Nat) : Int) := by
  show (if v < 0 then max (v + (n : Int)) 0 else min v (n : Int)) = (((if v < 0 then (v + (n : Int)).toNat else min v.toNat n) : Nat) : Int)
  by_cases hv : v < 0
  · simp only [if_pos hv]; omega
  · simp only [if_neg hv]; omega
theorem adjust_gen (lo hi : Option Int) (n : Nat) : Builtin.Slice.sliceAdjust lo hi 1 (n : Int) = (((sIx n 0 lo : Nat) : Int), ((sIx n n hi : Nat) : Int)) := by
  have h1 : ¬ ((1 : Int) < 0) := by omega
  unfold Builtin.Slice.sliceAdjust
  simp only [h1, if_false]
  refine Prod.ext ?_ ?_
  · cases lo with
    | none => rfl
    | some v => exact clip_eq v n 0
  · cases hi with
    | none => rfl
    | some v => exact clip_eq v n n
theorem places_gen (i j : Nat) : Builtin.Slice.slicePlaces (i : Int) (j : Int) 1 = j - i := by
  unfold Builtin.Slice.slicePlaces
  have h1 : (1 : Int) > 0 := by omega
  simp only [h1, if_true, Int.ediv_one]
  split <;> omega
theorem slicePart_ {v : Value} {o : Option Int} {Q : Option Int → Shared → Prop} (p : IsPart v o) (h : Q o s) : wpAny (model prog w) A (Builtin.Slice.slicePartIndex v) Q E s := by
  cases p with
  | none => exact slicePart_none h
  | int i t => exact slicePart_int h
theorem sliceApplied_gen {sl : Addr} {vl vu : Value} {lo hi : Option Int} {n : Nat} {Q : Int × Int × Nat → Shared → Prop} (hs : s.heap.IsSliceOf sl vl vu .none) (pl : IsPart vl lo) (pu : IsPart vu hi)
    (h : Q (((sIx n 0 lo : Nat) : Int), 1, sIx n n hi - sIx n 0 lo) s) : wpAny (model prog w) A (Builtin.Slice.sliceApplied (.ref sl) (pure (n : Int))) Q E s := by
  obtain ⟨os, hos, hcs, hds⟩ := id hs
  unfold Builtin.Slice.sliceApplied Builtin.Slice.sliceFields
  refine wpAny_bind (wpAny_bind (wpAny_field hos hds (x := vl) rfl (wpAny_bind (wpAny_field hos hds (x := vu) rfl (wpAny_bind (wpAny_field hos hds (x := .none) rfl (wpAny_pure ?_)))))))
  refine wpAny_bind (slicePart_none ?_)
  show wpAny _ _ (if ((1 : Int) == 0) = true then _ else _) _ _ s
  rw [if_neg (by decide)]
  refine wpAny_bind (slicePart_ pl (wpAny_bind (slicePart_ pu (wpAny_bind (wpAny_pure ?_)))))
  show wpAny _ _ (match Builtin.Slice.sliceAdjust lo hi 1 (n : Int) with | (lo, hi) => pure (lo, (1 : Int), Builtin.Slice.slicePlaces lo hi 1)) _ _ s
  rw [adjust_gen lo hi n]
  show wpAny _ _ (pure (((sIx n 0 lo : Nat) : Int), (1 : Int), Builtin.Slice.slicePlaces ((sIx n 0 lo : Nat) : Int) ((sIx n n hi : Nat) : Int) 1)) _ _ s
  rw [places_gen]
  exact wpAny_pure h
theorem pick_gen (xs : Array Value) (i k : Nat) : ((List.range k).filterMap fun (m : Nat) => xs[((i : Int) + (m : Int) * 1).toNat]?).toArray = ((xs.toList.drop i).take k).toArray := by
  have e : (fun (m : Nat) => xs[((i : Int) + (m : Int) * 1).toNat]?) = fun m => xs[i + m]? := by
    funext m
    have : ((i : Int) + (m : Int) * 1).toNat = i + m := by omega
    rw [this]
  rw [e]
  have := pick_run xs i k
  rw [List.filterMap_map] at this
  have e2 : ((fun x => xs[x]?) ∘ fun x => i + x) = fun m => xs[i + m]? := rfl
  rw [e2] at this
  rw [this]
theorem getItem_tuple_cut {t sl : Addr} {items : Array Value} {vl vu : Value} {lo hi : Option Int} {Q : Value → Shared → Prop} (ht : IsTup s.heap t items) (hs : s.heap.IsSliceOf sl vl vu .none) (pl : IsPart vl lo) (pu : IsPart vu hi)
    (hw : ¬ (sIx items.size 0 lo = 0 ∧ sIx items.size items.size hi = items.size))
    (h : Q (.ref s.heap.objs.size) { s with heap := s.heap.push { cls := .type "tuple", data := .seq ((items.toList.drop (sIx items.size 0 lo)).take (sIx items.size items.size hi - sIx items.size 0 lo)).toArray } })
    (hsz : items.size ≤ sizeLine) : wpAny (model prog w) A (getItem (.ref t) (.ref sl)) Q E s := by
  have htake : sizeOk (.seq ((items.toList.drop (sIx items.size 0 lo)).take (sIx items.size items.size hi - sIx items.size 0 lo)).toArray) := by
    show ((items.toList.drop (sIx items.size 0 lo)).take (sIx items.size items.size hi - sIx items.size 0 lo)).toArray.size ≤ sizeLine
    rw [List.size_toArray, List.length_take, List.length_drop, Array.length_toList]
    omega
  have hj : sIx items.size items.size hi ≤ items.size := sIx_le _ _ (Nat.le_refl _) hi
  obtain ⟨os, hos, hcs, hds⟩ := id hs
  have hTs : s.TypeIs (.ref sl) "slice" := ⟨os, hos, hcs⟩
  unfold getItem
  try with_reducible refine wpAny_holding ?_
  first | refine wpAny_bind (wpAny_pure ?_) | skip
  refine wpAny_bind (wpAny_sequenceKey ht.typeIs (by decide) ?_)
  refine wpAny_bind (wpAny_callSpecial?_slot (name := Str.ofString "__getitem__") ht.typeIs PyProof.Rows.slot_tuple_getitem
    (wpAny_call_entry PyProof.Rows.slot_tuple_getitem ht.typeIs entry_tuple_getitem ?_ (args_tuple_getitem _ _)))
  show wpAny _ _ (Builtin.Tuple.tupleItemsOf (.ref t) >>= _) _ _ s
  refine wpAny_bind (tupleItemsOf_ ht ?_)
  refine wpAny_bind (wpAny_typeOf hTs ?_)
  rw [if_pos (by decide)]
  refine wpAny_bind (sliceApplied_gen hs pl pu ?_)
  have hno : ¬ ((((sIx items.size 0 lo : Nat) : Int) == 0 && (1 : Int) == 1 && (sIx items.size items.size hi - sIx items.size 0 lo) == items.size) = true) := by
    intro q
    rw [Bool.and_eq_true, Bool.and_eq_true] at q
    have q1 : ((sIx items.size 0 lo : Nat) : Int) = 0 := eq_of_beq q.1.1
    have q2 : sIx items.size items.size hi - sIx items.size 0 lo = items.size := eq_of_beq q.2
    exact hw ⟨by omega, by omega⟩
  show wpAny _ _ (if (((sIx items.size 0 lo : Nat) : Int) == 0 && (1 : Int) == 1 && (sIx items.size items.size hi - sIx items.size 0 lo) == items.size) = true then _ else _) _ _ s
  rw [if_neg hno, pick_gen]
  first
    | exact wpAny_bind (m := Builtin.Tuple.tupleExact _) (wpAny_newObj_type (wpAny_pure ⟨_, rfl, wpAny_pure h⟩) htake)
    | exact wpAny_bind (m := Builtin.Tuple.tupleExact _) (wpAny_newObj_type (wpAny_bind (wpAny_pure (wpAny_pure ⟨_, rfl, wpAny_pure h⟩))) htake)
    | exact wpAny_bind (wpAny_bind (m := Builtin.Tuple.tupleExact _) (wpAny_newObj_type (wpAny_pure (wpAny_pure ⟨_, rfl, wpAny_pure h⟩)) htake))
    | exact wpAny_bind (wpAny_bind (m := Builtin.Tuple.tupleExact _) (wpAny_newObj_type (wpAny_pure ⟨_, rfl, wpAny_pure h⟩) htake))
end
end HT
namespace L2
open PySem PySem.Spec PyProof.Rows
abbrev TO := St → Hp → (Option Int → Hp → Prop) → Prop
def PO (X : Cx) (e : Option Expr) (t : TO) : Prop :=
  ∀ (pins : List (Addr × Obj)) (s : Shared) (σ : St) (H : Hp) (Q : Option Int → Hp → Prop), Inv X pins σ H s → t σ H Q →
    wpAny (model X.prog X.w) X.A (evalPart e X.env) (fun u s' => ∃ o H', Inv X pins σ H' s' ∧ IsPart u o ∧ Q o H') X.xe s
def tNoPart : TO := fun _ H Q => Q none H
def tPart (t : TE) : TO := fun σ H Q => t σ H fun x H1 => ∃ i, x = .int i ∧ Q (some i) H1
theorem intsAre_of {ns : List Int} : ∀ {us : List Value}, Vals (ns.map V.int) us → IntsAre us ns := by
  induction ns with
  | nil => intro us r; rw [List.map_nil] at r; cases r; exact .nil
  | cons n ns ih =>
    intro us r
    rw [List.map_cons] at r
    cases r with
    | cons r1 r2 =>
      obtain ⟨t, e⟩ := r1
      subst e
      exact .cons n t (ih r2)
section
variable {X : Cx} {e : Expr} {te : TE} {lo hi : Option Expr} {tl th : TO} {pos p2 : Pos}
theorem po_none : PO X none tNoPart := by
  intro pins s σ H Q I h
  rw [evalPart_none]
  exact wpAny_pure ⟨none, H, I, .none, h⟩
theorem po_some (h : PE X e te) : PO X (some e) (tPart te) := by
  intro pins s σ H Q I hw
  rw [evalPart_some]
  refine thn (h pins s σ H _ I hw) fun u s1 ⟨x, H1, I1, r1, q1⟩ => ?_
  obtain ⟨i, rfl, q⟩ := q1
  obtain ⟨t, rfl⟩ := r1
  exact ⟨some i, H1, I1, .int i t, q⟩
def SlR (X : Cx) (r : V → Option Int → Option Int → Hp → VK → Prop) : Prop :=
  ∀ (pins : List (Addr × Obj)) (s : Shared) (σ : St) (H : Hp) (x : V) (v vl vu : Value) (lo hi : Option Int) (sl : Addr) (Q : VK), Inv X pins σ H s → RelV x v → s.heap.IsSliceOf sl vl vu .none → IsPart vl lo → IsPart vu hi → r x lo hi H Q →
    ∃ T id, typeLookup (.type T) "__getitem__" = pure (some (.builtin id)) ∧ s.TypeIs v T ∧ wpAny (model X.prog X.w) X.A (getItem v (.ref sl)) (EP X pins σ Q) X.xe s
theorem SlR.or {r r' : V → Option Int → Option Int → Hp → VK → Prop} (h : SlR X r) (h' : SlR X r') : SlR X (fun x lo hi H Q => r x lo hi H Q ∨ r' x lo hi H Q) := by
  intro pins s σ H x v vl vu lo hi sl Q I rx hs pl pu q
  rcases q with q | q
  · exact h pins s σ H x v vl vu lo hi sl Q I rx hs pl pu q
  · exact h' pins s σ H x v vl vu lo hi sl Q I rx hs pl pu q
def tSl (r : V → Option Int → Option Int → Hp → VK → Prop) (te : TE) (tl th : TO) : TE := fun σ H Q => te σ H fun x H1 => tl σ H1 fun l H2 => th σ H2 fun u H3 => r x l u H3 Q
theorem pe_slice {r : V → Option Int → Option Int → Hp → VK → Prop} (hr : SlR X r) (he : PE X e te) (hl : PO X lo tl) (hu : PO X hi th) : PE X (.Subscript e (.Slice lo hi none p2) pos) (tSl r te tl th) := by
  intro pins s σ H Q I h
  refine Subscript_ (thn (he pins s σ H _ I h) fun v s1 ⟨x, H1, I1, r1, q1⟩ => ?_)
  refine wpAny_Slice (thn (hl pins s1 σ H1 _ I1 q1) fun vl s2 ⟨l, H2, I2, pl, q2⟩ => thn (hu pins s2 σ H2 _ I2 q2) fun vu s3 ⟨u, H3, I3, pu, q3⟩ => ?_)
  rw [evalPart_none]
  refine wpAny_pure ?_
  have I4 : Inv X pins σ H3 { s3 with heap := s3.heap.push { cls := .type "slice", data := .fields #[vl, vu, .none] } } := I3.kept (t' := s3.toks) fun b ob q => Heap.get?_push_of_some _ q
  obtain ⟨T, id, hT, ht, hg⟩ := hr pins { s3 with heap := s3.heap.push { cls := .type "slice", data := .fields #[vl, vu, .none] } } σ H3 x v vl vu l u s3.heap.objs.size Q I4 r1 (Heap.IsSliceOf.new ..) pl pu q3
  show wpAny (model X.prog X.w) X.A (subscriptTail e (.Slice lo hi none p2) v (.ref s3.heap.objs.size)) (EP X pins σ Q) X.xe { s3 with heap := s3.heap.push { cls := .type "slice", data := .fields #[vl, vu, .none] } }
  exact tail_any (ops := [.ref s3.heap.objs.size, v]) ht hT hg (by with_unfolding_all rfl)
def cutV (xs : List V) (lo hi : Option Int) : List V := (xs.drop (HT.sIx xs.length 0 lo)).take (HT.sIx xs.length xs.length hi - HT.sIx xs.length 0 lo)
theorem cutV_length (xs : List V) (lo hi : Option Int) : (cutV xs lo hi).length ≤ xs.length := by
  unfold cutV
  rw [List.length_take, List.length_drop]
  omega
def rSlT (K : PySem.W.Frag) : V → Option Int → Option Int → Hp → VK → Prop := fun x lo hi H Q => ∃ a xs, x = .ref a ∧ SqT K H a xs ∧
  ¬ (HT.sIx xs.length 0 lo = 0 ∧ HT.sIx xs.length xs.length hi = xs.length) ∧ ∀ p, H p = none → Q (.ref p) (upd H p (.tup (cutV xs lo hi)))
theorem sl_tup : SlR X (rSlT X.K) := by
  intro pins s σ H x v vl vu lo hi sl Q I rx hs pl pu h
  obtain ⟨a, xs, rfl, hx, hw, q⟩ := h
  cases rx
  obtain ⟨its, r, ht, hz⟩ := I.tuple hx
  have hlen : its.toArray.size = xs.length := by rw [List.size_toArray]; exact r.length.symm
  refine ⟨"tuple", _, PyProof.Rows.slot_tuple_getitem.lookup, ht.typeIs, ?_⟩
  refine HT.getItem_tuple_cut ht hs pl pu (by rw [hlen]; exact hw) ?_ (by rw [hlen]; exact hz)
  rw [hlen]
  refine ⟨.ref s.heap.objs.size, _, I.laid (t' := s.toks) (o := .tup (cutV xs lo hi)) (fun b ob q => Heap.get?_push_of_some _ q) (Nat.le_refl _) ?_, rfl, q _ (I.hok.fresh (Nat.le_refl _))⟩
  exact ⟨Nat.le_trans (cutV_length xs lo hi) hz, _, (r.drop (HT.sIx xs.length 0 lo)).take (HT.sIx xs.length xs.length hi - HT.sIx xs.length 0 lo), IsTup.new _ _⟩
def rCatT (K : PySem.W.Frag) : R2 := fun x y H Q => ∃ a b xs ys, x = .ref a ∧ y = .ref b ∧ SqT K H a xs ∧ SqT K H b ys ∧ xs ≠ [] ∧ xs.length + ys.length ≤ sizeLine ∧
  (ys = [] → Q (.ref a) H) ∧ (ys ≠ [] → ∀ p, H p = none → Q (.ref p) (upd H p (.tup (xs ++ ys))))
theorem Vals.nil_iff {xs : List V} {us : List Value} (r : Vals xs us) : us = [] ↔ xs = [] := by
  cases r with
  | nil => simp
  | cons _ _ => simp
theorem op_catT : OpR X (binaryOp .Add) (rCatT X.K) := by
  intro pins s σ H x y v u Q I rx ry h
  obtain ⟨a, b, xs, ys, rfl, rfl, ha, hb, hx, hz, q1, q2⟩ := h
  cases rx
  cases ry
  obtain ⟨its, r1, p1, _⟩ := I.tuple ha
  obtain ⟨its2, r2, p2, _⟩ := I.tuple hb
  refine HT.cat_tup p1 p2 (fun z => hx (r1.nil_iff.mp z)) (fun z => ⟨.ref a, H, I, rfl, q1 (r2.nil_iff.mp z)⟩) (fun z => ?_) (by rw [← r1.length, ← r2.length]; exact hz)
  refine ⟨.ref s.heap.objs.size, _, I.laid (t' := s.toks) (o := .tup (xs ++ ys)) (fun b ob q => Heap.get?_push_of_some _ q) (Nat.le_refl _) ?_, rfl, q2 (fun w => z (r2.nil_iff.mpr w)) _ (I.hok.fresh (Nat.le_refl _))⟩
  exact ⟨by rw [List.length_append]; exact hz, _, r1.append r2, IsTup.new _ _⟩
end
end L2
namespace L2
open PySem PySem.Spec PyProof.Rows
def ixN (n : Nat) (i : Int) : Option Nat := if 0 ≤ i then (if i < n then some i.toNat else none) else if -(n : Int) ≤ i then some (i + n).toNat else none
def atI {α : Type} (xs : List α) (i : Int) : Option α := (ixN xs.length i).bind fun j => xs[j]?
theorem ixN_seq {n : Nat} {i : Int} {j : Nat} (h : ixN n i = some j) : seqIndex? i n = some j ∧ j < n ∧ -(n : Int) ≤ i ∧ i < n := by
  unfold ixN at h
  by_cases h0 : 0 ≤ i
  · rw [if_pos h0] at h
    by_cases h1 : i < n
    · rw [if_pos h1] at h
      have e : i.toNat = j := Option.some.inj h
      exact ⟨by rw [seqIndex_of h0 h1, e], by omega, by omega, h1⟩
    · rw [if_neg h1] at h; cases h
  · rw [if_neg h0] at h
    by_cases h1 : -(n : Int) ≤ i
    · rw [if_pos h1] at h
      have e : (i + n).toNat = j := Option.some.inj h
      exact ⟨by rw [seqIndex_neg (by omega) h1, e], by omega, h1, by omega⟩
    · rw [if_neg h1] at h; cases h
theorem atI_get {α : Type} {xs : List α} {i : Int} {v : α} (h : atI xs i = some v) : ∃ j, seqIndex? i xs.length = some j ∧ xs[j]? = some v ∧ j < xs.length ∧ -(xs.length : Int) ≤ i ∧ i < xs.length := by
  unfold atI at h
  cases e : ixN xs.length i with
  | none => rw [e] at h; cases h
  | some j =>
    rw [e] at h
    obtain ⟨h1, h2, h3, h4⟩ := ixN_seq e
    exact ⟨j, h1, h, h2, h3, h4⟩
theorem atI_nat {α : Type} {xs : List α} {j : Nat} {v : α} (h : xs[j]? = some v) : atI xs (j : Int) = some v := by
  have hj : j < xs.length := (List.getElem?_eq_some_iff.mp h).1
  have e : ixN xs.length (j : Int) = some j := by
    unfold ixN
    rw [if_pos (by omega), if_pos (by omega)]; simp
  unfold atI; rw [e]; exact h
def PlainIx (b : Expr) : Prop := ∀ o i, subscripted b false o i = operate [o, i] (getItem o i)
def IxR (X : Cx) (r : R2) : Prop :=
  ∀ (value slice : Expr) (pins : List (Addr × Obj)) (s : Shared) (σ : St) (H : Hp) (x y : V) (v u : Value) (Q : VK), Inv X pins σ H s → RelV x v → RelV y u → r x y H Q →
    subscripted slice false v u = operate [v, u] (getItem v u) → wpAny (model X.prog X.w) X.A (subscriptTail value slice v u) (EP X pins σ Q) X.xe s
def MtR (X : Cx) (id : String) (r : V → List V → Hp → VK → Prop) : Prop :=
  ∀ (pins : List (Addr × Obj)) (s : Shared) (σ : St) (H : Hp) (x : V) (xs : List V) (v : Value) (us : List Value) (Q : VK), Inv X pins σ H s → RelV x v → Vals xs us → r x xs H Q →
    wpAny (model X.prog X.w) X.A (call (.builtin id) (v :: us)) (EP X pins σ Q) X.xe s
section
variable {X : Cx} {a b : Expr} {ta tb : TE} {pos : Pos}
theorem IxR.or {r r' : R2} (h : IxR X r) (h' : IxR X r') : IxR X (fun x y H Q => r x y H Q ∨ r' x y H Q) := by
  intro value slice pins s σ H x y v u Q I rx ry q hs
  rcases q with q | q
  · exact h value slice pins s σ H x y v u Q I rx ry q hs
  · exact h' value slice pins s σ H x y v u Q I rx ry q hs
theorem MtR.or {id : String} {r r' : V → List V → Hp → VK → Prop} (h : MtR X id r) (h' : MtR X id r') : MtR X id (fun x xs H Q => r x xs H Q ∨ r' x xs H Q) := by
  intro pins s σ H x xs v us Q I rx rs q
  rcases q with q | q
  · exact h pins s σ H x xs v us Q I rx rs q
  · exact h' pins s σ H x xs v us Q I rx rs q
theorem pe_ix {r : R2} (hr : IxR X r) (ha : PE X a ta) (hb : PE X b tb) (hs : PlainIx b) : PE X (.Subscript a b pos) (tOp r ta tb) := by
  intro pins s σ H Q I h
  exact Subscript_ (binT ha hb I h fun v u s2 x y H2 I2 rx ry q => hr a b pins s2 σ H2 x y v u Q I2 rx ry q (hs _ _))
def rIxL (K : PySem.W.Frag) : R2 := fun x y H Q => ∃ p xs i v, x = .ref p ∧ y = .int i ∧ SqL K H p xs ∧ atI xs i = some v ∧ Q v H
def rIxT (K : PySem.W.Frag) : R2 := fun x y H Q => ∃ p xs i v, x = .ref p ∧ y = .int i ∧ SqT K H p xs ∧ atI xs i = some v ∧ Q v H
def rIxS : R2 := fun x y H Q => ∃ z i c, x = .str z ∧ y = .int i ∧ z.length ≤ sizeLine ∧ atI z.cps.toList i = some c ∧ Q (.str ⟨#[c]⟩) H
theorem ix_list : IxR X (rIxL X.K) := by
  intro value slice pins s σ H x y v u Q I rx ry h hs
  obtain ⟨p, xs, i, z, rfl, rfl, hq, he, q⟩ := h
  cases rx
  obtain ⟨t, rfl⟩ := ry
  obtain ⟨its, r, pl, hz⟩ := I.list hq
  obtain ⟨j, h1, h2, h3, h4, h5⟩ := atI_get he
  obtain ⟨w, ew, rw'⟩ := r.get h2
  have hl := r.length
  have hn := line63
  have fin : EP X pins σ Q w s := ⟨z, H, I, rw', q⟩
  by_cases h0 : 0 ≤ i
  · have hj : i.toNat = j := by
      rw [seqIndex_of h0 h5] at h1
      exact Option.some.inj h1
    exact item_listR pl.isList h0 (by omega) (by rw [hj]; simpa using ew) fin hs
  · have hj : (i + (its.toArray.size : Int)).toNat = j := by
      rw [seqIndex_neg (by omega) h4] at h1
      rw [List.size_toArray, ← hl]
      exact Option.some.inj h1
    exact subscriptTail_builtinR (x := w) pl.isList.typeIs slot_list_getitem.lookup
      (wpAny_getItem_list_neg (Q := fun r s' => r = w ∧ EP X pins σ Q r s') pl.isList (by omega) (by rw [List.size_toArray] <;> omega) (by omega) (by rw [hj]; simpa using ew) ⟨rfl, fin⟩) hs
theorem ix_tup : IxR X (rIxT X.K) := by
  intro value slice pins s σ H x y v u Q I rx ry h hs
  obtain ⟨p, xs, i, z, rfl, rfl, hq, he, q⟩ := h
  cases rx
  obtain ⟨t, rfl⟩ := ry
  obtain ⟨its, r, pl, hz⟩ := I.tuple hq
  obtain ⟨j, h1, h2, h3, h4, h5⟩ := atI_get he
  obtain ⟨w, ew, rw'⟩ := r.get h2
  have hl := r.length
  have hn := line63
  have fin : EP X pins σ Q w s := ⟨z, H, I, rw', q⟩
  exact subscriptTail_builtinR (x := w) pl.typeIs slot_tuple_getitem.lookup
    (getItem_tuple (j := j) (Q := fun r s' => r = w ∧ EP X pins σ Q r s') pl (by omega) (by omega) (by rw [List.size_toArray, ← hl]; exact h1) (by simpa using ew) ⟨rfl, fin⟩) hs
theorem ix_str : IxR X rIxS := by
  intro value slice pins s σ H x y v u Q I rx ry h hs
  obtain ⟨z, i, c, rfl, rfl, hz, he, q⟩ := h
  obtain ⟨t, rfl⟩ := rx
  obtain ⟨t', rfl⟩ := ry
  obtain ⟨j, h1, h2, h3, h4, h5⟩ := atI_get he
  have hl : z.cps.toList.length = z.length := by simp [Str.length]
  rw [hl] at h1 h4 h5
  have hn := line63
  exact tail_any (typeIs_str s z t) slot_str_getitem.lookup (getItem_str (c := c) (by
    have e1 : decide (i < -(2 ^ 63 : Int)) = false := decide_eq_false (by omega)
    have e2 : decide (i ≥ 2 ^ 63) = false := decide_eq_false (by omega)
    rw [e1, e2, Bool.or_false]) (by rw [h1]; simpa using h2) ⟨.str ⟨#[c]⟩, H, I.tok _, ⟨_, rfl⟩, q⟩) hs
def rIx (K : PySem.W.Frag) : R2 := fun x y H Q => rIxL K x y H Q ∨ rIxT K x y H Q ∨ rIxS x y H Q
theorem ix_seq : IxR X (rIx X.K) := ix_list.or (ix_tup.or ix_str)
theorem mapSeq_set (its : List Value) (n j : Nat) (u : Value) : Obj.mapSeq (·.setIfInBounds j u) { cls := .type "list", data := .seq its.toArray n } = { cls := .type "list", data := .seq (its.set j u).toArray n } := by
  simp [Obj.mapSeq]
theorem Inv.lst {pins : List (Addr × Obj)} {σ : St} {H : Hp} {s : Shared} {p : Addr} {xs : List V} (I : Inv X pins σ H s) (h : H p = some (.lst xs)) :
    ∃ (its : List Value) (n : Nat), Vals xs its ∧ s.heap.get? p = some { cls := .type "list", data := .seq its.toArray n } ∧ xs.length ≤ sizeLine := by
  obtain ⟨z, its, n, r, e⟩ := I.hok p _ h
  exact ⟨its, n, r, e, z⟩
theorem Inv.lstUpd {pins : List (Addr × Obj)} {σ : St} {H : Hp} {s : Shared} {p : Addr} {xs ys : List V} {its its' : List Value} {n n' : Nat} {f : Obj → Obj} (I : Inv X pins σ H s) (h : H p = some (.lst xs))
    (ho : s.heap.get? p = some { cls := .type "list", data := .seq its.toArray n }) (hf : f { cls := .type "list", data := .seq its.toArray n } = { cls := .type "list", data := .seq its'.toArray n' }) (r : Vals ys its') (hz : ys.length ≤ sizeLine) (t : Nat) :
    Inv X pins σ (upd H p (.lst ys)) { s with heap := s.heap.update p f, toks := t } := by
  have e : (s.heap.update p f).get? p = some { cls := .type "list", data := .seq its'.toArray n' } := by
    rw [Heap.get?_update_self f ho (by rw [hf] <;> rfl), hf]
  refine I.write (x := p) (e := p) (by rw [h]; trivial) (.inl rfl) (fun b u hb q => (Heap.get?_update_other _ _ (Ne.symm hb)).trans q) ⟨_, e⟩ ?_
  exact ⟨hz, its', n', r, e⟩
def rSetL : V → V → V → Hp → (Hp → Prop) → Prop := fun o i v H Q => ∃ p xs k j, o = .ref p ∧ i = .int k ∧ H p = some (.lst xs) ∧ ixN xs.length k = some j ∧ Q (upd H p (.lst (xs.set j v)))
theorem set_list : PSet X rSetL := by
  intro pins s σ H o i v ov iv u Q I ro ri rv h
  obtain ⟨p, xs, k, j, rfl, rfl, hp, hj, q⟩ := h
  cases ro
  obtain ⟨t, rfl⟩ := ri
  obtain ⟨its, n, r, ho, hz⟩ := I.lst hp
  obtain ⟨h1, h2, h3, h4⟩ := ixN_seq hj
  have hl := r.length
  have hn := line63
  have I' : Inv X pins σ (upd H p (.lst (xs.set j v))) { s with heap := s.heap.update p (Obj.mapSeq (·.setIfInBounds j u)) } :=
    I.lstUpd hp ho (mapSeq_set its n j u) (r.set rv j) (by rw [List.length_set]; exact hz) s.toks
  by_cases h0 : 0 ≤ k
  · have hk : k.toNat = j := by
      rw [seqIndex_of h0 h4] at h1
      exact Option.some.inj h1
    exact PySem.W.ki_setAt ho h0 (by omega) (by rw [List.size_toArray, ← hl]; exact h4) (by rw [hk]; exact ⟨_, I', q⟩)
  · have hk : (k + (its.toArray.size : Int)).toNat = j := by
      rw [seqIndex_neg (by omega) h3] at h1
      rw [List.size_toArray, ← hl]
      exact Option.some.inj h1
    exact PySem.W.ki_setBack ho (by omega) (by rw [List.size_toArray, ← hl]; exact h3) (by omega) (by rw [hk]; exact ⟨_, I', q⟩)
theorem slice_bounds (lo hi : Option Int) (n : Nat) : (sliceBounds lo hi none n).1 = ((HT.sIx n 0 lo : Nat) : Int) ∧ (sliceBounds lo hi none n).2.1 = ((HT.sIx n n hi : Nat) : Int) ∧ (sliceBounds lo hi none n).2.2 = 1 := by
  refine ⟨?_, ?_, rfl⟩
  · cases lo with
    | none => simp [sliceBounds, HT.sIx]
    | some i =>
      simp only [sliceBounds, HT.sIx, Option.getD_none, show (1 : Int) > 0 by decide, if_true]
      by_cases h : i < 0
      · simp only [h, if_true] <;> omega
      · simp only [h, if_false] <;> omega
  · cases hi with
    | none => simp [sliceBounds, HT.sIx]
    | some i =>
      simp only [sliceBounds, HT.sIx, Option.getD_none, show (1 : Int) > 0 by decide, if_true]
      by_cases h : i < 0
      · simp only [h, if_true] <;> omega
      · simp only [h, if_false] <;> omega
theorem slicePick_cut (its : List Value) (lo hi : Option Int) : slicePick its.toArray lo hi none = ((its.drop (HT.sIx its.length 0 lo)).take (HT.sIx its.length its.length hi - HT.sIx its.length 0 lo)).toArray := by
  obtain ⟨h1, h2, h3⟩ := slice_bounds lo hi its.toArray.size
  unfold slicePick
  rw [h1, h2, h3]
  simp only [sliceRange_one, pick_run, List.size_toArray] <;> rfl
def rSlL (K : PySem.W.Frag) : V → Option Int → Option Int → Hp → VK → Prop := fun x lo hi H Q => ∃ a xs, x = .ref a ∧ SqL K H a xs ∧ ∀ p, H p = none → Q (.ref p) (upd H p (.lst (cutV xs lo hi)))
theorem sl_list : SlR X (rSlL X.K) := by
  intro pins s σ H x v vl vu lo hi sl Q I rx hs pl pu h
  obtain ⟨a, xs, rfl, hx, q⟩ := h
  cases rx
  obtain ⟨its, r, ht, hz⟩ := I.list hx
  have hlen := r.length
  refine ⟨"list", _, slot_list_getitem.lookup, ht.isList.typeIs, ?_⟩
  refine wpAny_getItem_list_slice ht.isList hs pl pu .none (by simp) ?_ (by rw [List.size_toArray] <;> omega)
  rw [slicePick_cut, ← hlen]
  refine ⟨.ref s.heap.objs.size, _, I.laid (t' := s.toks) (o := .lst (cutV xs lo hi)) (fun b ob q => Heap.get?_push_of_some _ q) (Nat.le_refl _) ?_, rfl, q _ (I.hok.fresh (Nat.le_refl _))⟩
  exact ⟨Nat.le_trans (cutV_length xs lo hi) hz, _, 0, (r.drop (HT.sIx xs.length 0 lo)).take (HT.sIx xs.length xs.length hi - HT.sIx xs.length 0 lo), Heap.get?_push_size _ rfl⟩
theorem CallR.or {f : Value} {r r' : List V → Hp → VK → Prop} (h : CallR X f r) (h' : CallR X f r') : CallR X f (fun xs H Q => r xs H Q ∨ r' xs H Q) := by
  intro pins s σ H xs us Q I rs q
  rcases q with q | q
  · exact h pins s σ H xs us Q I rs q
  · exact h' pins s σ H xs us Q I rs q
theorem call_list_of : CallR X (.type "list") (fun xs H Q => ∃ p ys, xs = [.ref p] ∧ (SqL X.K H p ys ∨ SqT X.K H p ys) ∧ ∀ l, H l = none → Q (.ref l) (upd H l (.lst ys))) := by
  intro pins s σ H xs us Q I r h
  obtain ⟨p, ys, rfl, hq, q⟩ := h
  obtain ⟨u, rfl, rx⟩ := vals1 r
  cases rx
  have fin : ∀ (its : List Value), Vals ys its → ys.length ≤ sizeLine → ∀ (h' : Heap) (c' : Nat), (∀ b o', s.heap.get? b = some o' → h'.get? b = some o') →
      h'.get? s.heap.objs.size = some { cls := .type "list", dict := none, data := .seq its.toArray c', slots := #[] } → EP X pins σ Q (.ref s.heap.objs.size) { s with heap := h' } := fun its r' hz h' c' kp e =>
    ⟨.ref s.heap.objs.size, _, I.laid (t' := s.toks) kp (Nat.le_refl _) (show ObjOk X.prog X.w _ h' _ (.lst ys) from ⟨hz, its, c', r', e⟩), rfl, q _ (I.hok.fresh (Nat.le_refl _))⟩
  rcases hq with hq | hq
  · obtain ⟨its, r', pl, hz⟩ := I.list hq
    have hlen := r'.length
    obtain ⟨o, ho, hc, n, hd⟩ := pl.isList
    exact call_list_seq p (.inl rfl) ho hc hd (fun h' c' kp e => fin its r' hz h' c' kp e) (by simp only [List.size_toArray] <;> omega)
  · obtain ⟨its, r', pl, hz⟩ := I.tuple hq
    have hlen := r'.length
    obtain ⟨o, ho, hc, n, hd⟩ := pl
    exact call_list_seq p (.inr rfl) ho hc hd (fun h' c' kp e => fin its r' hz h' c' kp e) (by simp only [List.size_toArray] <;> omega)
def tyV (K : PySem.W.Frag) (T : String) (x : V) (H : Hp) : Prop := match x with
  | .str _ => T = "str"
  | .int _ => T = "int"
  | .ref p => (T = "list" ∧ ∃ xs, SqL K H p xs) ∨ (T = "tuple" ∧ ∃ o, K.lookup p = some o ∧ o.cls = .type "tuple" ∧ o.dict = none) ∨
      (T = "dict" ∧ ((∃ kvs, H p = some (.dK kvs)) ∨ ∃ kvs, H p = some (.dT kvs))) ∨ (T = "set" ∧ ∃ S n, H p = some (.set S n))
  | _ => False
theorem tyV_is {pins : List (Addr × Obj)} {σ : St} {H : Hp} {s : Shared} {T : String} {x : V} {v : Value} (I : Inv X pins σ H s) (r : RelV x v) (ty : tyV X.K T x H) :
    s.TypeIs v T ∧ ∀ a, v = .ref a → ∃ ob, s.heap.get? a = some ob ∧ ob.dict = none := by
  cases x with
  | str z =>
    obtain ⟨t, rfl⟩ := r
    cases (show T = "str" from ty)
    exact ⟨typeIs_str s z t, fun _ e => nomatch e⟩
  | int i =>
    obtain ⟨t, rfl⟩ := r
    cases (show T = "int" from ty)
    exact ⟨typeIs_int s i t, fun _ e => nomatch e⟩
  | ref p =>
    cases r
    rcases ty with ⟨rfl, xs, hq⟩ | ⟨rfl, o, hk, hc, hd⟩ | ⟨rfl, hk⟩ | ⟨rfl, S, n, hk⟩
    · obtain ⟨its, _, pl, _⟩ := I.list hq
      refine ⟨pl.isList.typeIs, fun a e => ?_⟩
      cases e
      obtain ⟨o, n, e, c, hd, _⟩ := pl
      exact ⟨o, e, hd⟩
    · refine ⟨⟨o, I.kIn p o hk, hc⟩, fun a e => ?_⟩
      cases e
      exact ⟨o, I.kIn _ o hk, hd⟩
    · have z : ∃ o, s.heap.get? p = some o ∧ o.ExactDict := by
        rcases hk with ⟨kvs, hk⟩ | ⟨kvs, hk⟩
        · obtain ⟨_, _, _, _, o, _, _, e, ex, _⟩ := I.hok p _ hk
          exact ⟨o, e, ex⟩
        · obtain ⟨_, _, _, _, o, _, _, e, ex, _⟩ := I.hok p _ hk
          exact ⟨o, e, ex⟩
      obtain ⟨o, e, ex⟩ := z
      refine ⟨⟨o, e, ex.1⟩, fun a e2 => ?_⟩
      cases e2
      exact ⟨o, e, ex.2.1⟩
    · obtain ⟨o, _, _, _, e, ex, _⟩ := I.hok p _ hk
      refine ⟨⟨o, e, ex.1⟩, fun a e2 => ?_⟩
      cases e2
      exact ⟨o, e, ex.2.1⟩
  | _ => exact False.elim ty
def tBM0 (K : PySem.W.Frag) (T : String) (r : V → List V → Hp → VK → Prop) (to : TE) : TE := fun σ H Q => to σ H fun x H1 => tyV K T x H1 ∧ r x [] H1 Q
def tBM (K : PySem.W.Frag) (T : String) (r : V → List V → Hp → VK → Prop) (to : TE) (t : TA) : TE := fun σ H Q => to σ H fun x H1 => tyV K T x H1 ∧ t σ H1 fun xs H2 => r x xs H2 Q
variable {o e : Expr} {es : List Expr} {to : TE} {t : TA} {name : Str} {apos cpos : Pos} {T id : String} {r : V → List V → Hp → VK → Prop}
theorem pe_bm0 (pa : PlainAttrs T) (slot : Slot T name id) (hty : typeOf (.builtin id) = pure (.type "method_descriptor")) (hm : MtR X id r) (ho : PE X o to)
    (hbase : attributeBase o name X.env (eval o X.env) = eval o X.env := by rfl) (hline : (apos.endLine == cpos.line) = true := by rfl) : PE X (.Call (.Attribute o name apos) [] [] cpos) (tBM0 X.K T r to) := by
  intro pins s σ H Q I h
  refine wpAny_Call_method0_late hbase hline (thn (ho pins s σ H _ I h) fun v s1 ⟨x, H1, I1, r1, ty, q1⟩ => ?_)
  obtain ⟨h1, h2⟩ := tyV_is I1 r1 ty
  exact ⟨T, id, pa, slot, hty, h1, h2, Calls.callWith_builtin rfl (PySem.evalArgs_none (hm pins s1 σ H1 x [] v [] Q I1 r1 .nil q1))⟩
theorem pe_bm (pa : PlainAttrs T) (slot : Slot T name id) (hty : typeOf (.builtin id) = pure (.type "method_descriptor")) (hm : MtR X id r) (ho : PE X o to) (ha : PA X (e :: es) t)
    (hbase : attributeBase o name X.env (eval o X.env) = eval o X.env := by rfl)
    (hfew : ((backTo cpos (starEach (e :: es) X.env)).all (fun x => !x.1) && (backToKw cpos (keywordEach [] X.env)).all (fun x => x.1.isSome)
      && decide ((e :: es).length + ([] : List Keyword).length + (if ([] : List Keyword).isEmpty then 0 else 1) < 30)) = true := by rfl)
    (hline : (apos.endLine == cpos.line) = true := by rfl) (hs : starEach (e :: es) X.env = (false, eval e X.env) :: starEach es X.env := by rfl) (hplain : (backTo cpos (starEach es X.env)).any (·.1) = false := by rfl) :
    PE X (.Call (.Attribute o name apos) (e :: es) [] cpos) (tBM X.K T r to t) := by
  intro pins s σ H Q I h
  refine wpAny_Call_method_late hbase hfew hline rfl (thn (ho pins s σ H _ I h) fun v s1 ⟨x, H1, I1, r1, ty, q1⟩ => ?_)
  obtain ⟨h1, h2⟩ := tyV_is I1 r1 ty
  refine ⟨T, id, pa, slot, hty, h1, h2, ?_⟩
  have hA := ha cpos pins s1 σ H1 _ I1 q1
  rw [hs] at hA ⊢
  refine Calls.callWith_builtin (by show (false || (backTo cpos (starEach es X.env)).any (·.1)) = false; rw [hplain] <;> rfl) (Calls.evalArgs_plain ?_)
  exact thn hA fun us s2 ⟨vs, H2, I2, r2, q2⟩ => hm pins s2 σ H2 x vs v us Q I2 r1 r2 q2
/- xs.append(e), list.index on a module's tuple .. are MtR facts of 06m -/
end
end L2
namespace L2
open PySem PySem.Spec PyProof.Rows
def MtM (X : Cx) (id : String) (r : V → List V → Hp → VK → Prop) : Prop :=
  ∀ (pins : List (Addr × Obj)) (s : Shared) (σ : St) (H : Hp) (x : V) (xs : List V) (v : Value) (us : List Value) (Q : VK), Inv X pins σ H s → RelV x v → Vals xs us → r x xs H Q →
    wpAny (model X.prog X.w) X.A (call (.builtin id) (v :: us)) (EP X pins σ Q) X.xe s
theorem Vals.one : ∀ {x : V} {us : List Value}, Vals [x] us → ∃ u, us = [u] ∧ RelV x u
  | _, _, .cons r .nil => ⟨_, rfl, r⟩
theorem Vals.two : ∀ {x y : V} {us : List Value}, Vals [x, y] us → ∃ u v, us = [u, v] ∧ RelV x u ∧ RelV y v
  | _, _, _, .cons r (.cons q .nil) => ⟨_, _, rfl, r, q⟩
theorem Vals.zero : ∀ {us : List Value}, Vals [] us → us = []
  | _, .nil => rfl
theorem Vals.reverse {xs : List V} {us : List Value} (h : Vals xs us) : Vals xs.reverse us.reverse := by
  induction h with
  | nil => exact .nil
  | cons r t ih => rw [List.reverse_cons, List.reverse_cons]; exact Vals.append ih (.cons r .nil)
theorem Vals.rep {xs : List V} {us : List Value} (h : Vals xs us) : ∀ k : Nat, Vals (List.replicate k xs).flatten (List.replicate k us).flatten
  | 0 => .nil
  | k + 1 => by
    rw [List.replicate_succ, List.replicate_succ, List.flatten_cons, List.flatten_cons]
    exact Vals.append h (Vals.rep h k)
theorem foldl_rep (its : List Value) : ∀ (k : Nat) (acc : List Value),
    List.foldl (fun x1 x2 => x1 ++ x2) acc.toArray (List.replicate k its.toArray) = (acc ++ (List.replicate k its).flatten).toArray
  | 0, acc => by simp
  | k + 1, acc => by
    have e : acc.toArray ++ its.toArray = (acc ++ its).toArray := by simp
    have e2 : (acc ++ its) ++ (List.replicate k its).flatten = acc ++ (List.replicate (k + 1) its).flatten := by
      rw [List.replicate_succ, List.flatten_cons, List.append_assoc]
    rw [← e2, ← foldl_rep its k (acc ++ its), ← e, List.replicate_succ, List.foldl_cons]
section
variable {X : Cx} {pins : List (Addr × Obj)} {σ : St} {H : Hp} {s : Shared} {l b : Addr} {xs ys zs : List V}
theorem Inv.lset {its its' : List Value} {n : Nat} {f : Array Value → Array Value} {t' : Nat} (I : Inv X pins σ H s) (hH : H l = some (.lst xs))
    (e : s.heap.get? l = some { cls := .type "list", data := .seq its.toArray n }) (hf : f its.toArray = its'.toArray) (hv : Vals ys its') (hz : ys.length ≤ sizeLine) :
    Inv X pins σ (upd H l (.lst ys)) { s with heap := s.heap.update l (Obj.mapSeq f), toks := t' } := by
  have q := PySem.IsL.update e f
  rw [hf] at q
  refine I.write (x := l) (e := l) (by rw [hH]; exact trivial) (.inl rfl) (fun b' u hb hu => (Heap.get?_update_other s.heap (Obj.mapSeq f) (Ne.symm hb)).trans hu) ⟨_, q⟩ ?_
  exact ⟨hz, its', _, hv, q⟩
theorem Inv.lnew {its : List Value} {t' : Nat} (I : Inv X pins σ H s) (hv : Vals ys its) (hz : ys.length ≤ sizeLine) :
    Inv X pins σ (upd H s.heap.objs.size (.lst ys)) { s with heap := s.heap.push { cls := .type "list", data := .seq its.toArray }, toks := t' } :=
  I.laid (fun _ _ q => Heap.get?_push_of_some _ q) (Nat.le_refl _) ⟨hz, its, 0, hv, Heap.get?_push_size _ rfl⟩
theorem Inv.fresh (I : Inv X pins σ H s) : H s.heap.objs.size = none := I.hok.fresh (Nat.le_refl _)
theorem Inv.lstM (I : Inv X pins σ H s) (hH : H l = some (.lst xs)) : xs.length ≤ sizeLine ∧ ∃ (its : List Value) (n : Nat), Vals xs its ∧ xs.length = its.length ∧ s.heap.get? l = some { cls := .type "list", data := .seq its.toArray n } := by
  obtain ⟨z, its, n, r, e⟩ := I.hok l _ hH
  exact ⟨z, its, n, r, r.length, e⟩
theorem notLongL {n : Nat} (h : n ≤ sizeLine) : Builtin.List.listTooLong n = false := by
  unfold Builtin.List.listTooLong
  exact decide_eq_false (by omega)
end
section
variable {X : Cx}
def rAppend : V → List V → Hp → VK → Prop := fun x vs H Q => ∃ l xs y, x = .ref l ∧ vs = [y] ∧ H l = some (.lst xs) ∧ xs.length < sizeLine ∧ Q .non (upd H l (.lst (xs ++ [y])))
theorem mt_append : MtM X "list.append" rAppend := by
  intro pins s σ H x vs v us Q I rx rv h
  obtain ⟨l, xs, y, rfl, rfl, hH, hz, q⟩ := h
  cases rx
  obtain ⟨u, rfl, ru⟩ := rv.one
  obtain ⟨z, its, n, r, hl, e⟩ := I.lstM hH
  refine call_meets F.slot_list_append ⟨_, e, rfl⟩ F.entry_list_append (F.args_list_append_2 _ _) (PySem.list_append l its.toArray n u (by rw [List.size_toArray]; omega)) ⟨e, ?_⟩
  refine ⟨.non, _, I.lset (its' := its ++ [u]) hH e (by simp) (r.append (.cons ru .nil)) ?_, rfl, q⟩
  rw [List.length_append, List.length_singleton]
  omega
def rExtend : V → List V → Hp → VK → Prop := fun x vs H Q => ∃ l b xs zs, x = .ref l ∧ vs = [.ref b] ∧ H l = some (.lst xs) ∧ H b = some (.lst zs) ∧ xs.length + zs.length ≤ sizeLine ∧ Q .non (upd H l (.lst (xs ++ zs)))
theorem mt_extend : MtM X "list.extend" rExtend := by
  intro pins s σ H x vs v us Q I rx rv h
  obtain ⟨l, b, xs, zs, rfl, rfl, hH, hB, hz, q⟩ := h
  cases rx
  obtain ⟨u, rfl, ru⟩ := rv.one
  cases ru
  obtain ⟨z, its, n, r, hl, e⟩ := I.lstM hH
  obtain ⟨z2, its2, n2, r2, hl2, e2⟩ := I.lstM hB
  have hsz : its.toArray.size + its2.toArray.size ≤ sizeLine := by rw [List.size_toArray, List.size_toArray]; omega
  have hlong : ¬ (!its.toArray.isEmpty && Builtin.List.listTooLong (its.toArray.size + its2.toArray.size)) = true := by
    rw [notLongL hsz, Bool.and_false]
    exact Bool.false_ne_true
  refine call_meets F.slot_list_extend ⟨_, e, rfl⟩ F.entry_list_extend (F.args_list_extend_2 _ _)
    (AutoSeq1.list_extend_list_list_0 l its.toArray n b its2.toArray n2 hlong (by rw [List.size_toArray]; omega) (by omega)) ⟨e, e2, ?_⟩
  refine ⟨.non, _, I.lset (its' := its ++ its2) hH e (by simp) (r.append r2) ?_, rfl, q⟩
  rw [List.length_append]
  omega
def rCat : R2 := fun x y H Q => ∃ l b xs zs, x = .ref l ∧ y = .ref b ∧ H l = some (.lst xs) ∧ H b = some (.lst zs) ∧ xs.length + zs.length ≤ sizeLine ∧ ∀ p, H p = none → Q (.ref p) (upd H p (.lst (xs ++ zs)))
theorem op_cat : OpR X (binaryOp .Add) rCat := by
  intro pins s σ H x y v u Q I rx ry h
  obtain ⟨l, b, xs, zs, rfl, rfl, hH, hB, hz, q⟩ := h
  cases rx
  cases ry
  obtain ⟨z, its, n, r, hl, e⟩ := I.lstM hH
  obtain ⟨z2, its2, n2, r2, hl2, e2⟩ := I.lstM hB
  refine PySem.P.add_list e e2 ?_ (by rw [List.size_toArray, List.size_toArray]; omega)
  have ea : its.toArray ++ its2.toArray = (its ++ its2).toArray := by simp
  rw [ea]
  exact ⟨.ref _, _, I.lnew (t' := s.toks) (r.append r2) (by rw [List.length_append]; omega), rfl, q _ I.fresh⟩
def rRep : R2 := fun x y H Q => ∃ l k xs, x = .ref l ∧ y = .int k ∧ H l = some (.lst xs) ∧ -(2 ^ 63) ≤ k ∧ k < 2 ^ 63 ∧ xs.length * k.toNat ≤ sizeLine ∧
  ∀ p, H p = none → Q (.ref p) (upd H p (.lst (List.replicate k.toNat xs).flatten))
theorem len_rep {α : Type} (xs : List α) (k : Nat) : (List.replicate k xs).flatten.length = k * xs.length := by
  induction k with
  | zero => simp
  | succ k ih => rw [List.replicate_succ, List.flatten_cons, List.length_append, ih, Nat.succ_mul, Nat.add_comm]
theorem op_rep : OpR X (binaryOp .Mult) rRep := by
  intro pins s σ H x y v u Q I rx ry h
  obtain ⟨l, k, xs, rfl, rfl, hH, h1, h2, hz, q⟩ := h
  cases rx
  obtain ⟨t, rfl⟩ := ry
  obtain ⟨z, its, n, r, hl, e⟩ := I.lstM hH
  have hlen : its.toArray.size * k.toNat ≤ sizeLine := by rw [List.size_toArray, ← hl]; exact hz
  have hcap : ¬ its.toArray.size * k.toNat > (2 ^ 63 - 1) / 8 := by
    have : (sizeLine : Nat) ≤ (2 ^ 63 - 1) / 8 := by decide
    omega
  have hfit : ¬ (!Builtin.List.listFitsIndex k) = true := by
    rw [fitsIndex_both h1 h2]
    exact Bool.false_ne_true
  have hlong : ¬ Builtin.List.listTooLong (its.toArray.size * k.toNat) = true := by
    rw [notLongL hlen]
    exact Bool.false_ne_true
  have hnew : List.foldl (fun x1 x2 => x1 ++ x2) #[] (List.replicate (if its.toArray.isEmpty = true then 0 else k.toNat) its.toArray) = (List.replicate k.toNat its).flatten.toArray := by
    have f0 : ∀ m : Nat, List.foldl (fun x1 x2 => x1 ++ x2) #[] (List.replicate m its.toArray) = (List.replicate m its).flatten.toArray := fun m => by
      have := foldl_rep its m []
      rw [List.nil_append] at this
      exact this
    rw [f0]
    cases its with
    | nil => simp
    | cons a r' => rw [if_neg (by simp)]
  refine wpAny_binaryOp_repeat_ref (T := "list") (U := "int") (by decide) ⟨_, e, rfl⟩ (fun s' => typeIs_int s' k t) noFill_list_mul F.fills_int_mul F.slot_int_rmul repeat_list F.slot_int_index.lookup
    (call_meets F.slot_int_rmul (typeIs_int s k t) F.entry_int_rmul (F.args_int_rmul_2 _ _) (int___rmul___int_list k t l its.toArray n)
      ⟨e, rfl, ⟨_, e, rfl⟩, call_meets F.slot_list_mul ⟨_, e, rfl⟩ F.entry_list_mul (F.args_list_mul_2 _ _) (AutoListH.list___mul___list_int_3 l its.toArray n k t hfit hcap hlong) ⟨e, ?_⟩⟩)
  rw [hnew]
  exact ⟨.ref _, _, I.lnew (t' := s.toks) (r.rep k.toNat) (by rw [len_rep, Nat.mul_comm]; exact hz), rfl, q _ I.fresh⟩
end
section
variable {prog : Program} {w : World} {A : Around} {E : Value → Shared → Prop} {s : Shared}
end
section
variable {X : Cx}
end
end L2
namespace Att
open PySem PySem.W PySem.Calls PyProof.Rows
theorem ints_of_wellAll {P : Params} {h : Heap} : ∀ (ns : List Int) (vs : List Value), WellAll P h vs (ns.map WData.int) → IntsAre vs ns := by
  intro ns
  induction ns with
  | nil =>
    intro vs w
    rw [List.map_nil] at w
    cases w
    exact .nil
  | cons n ns ih =>
    intro vs w
    rw [List.map_cons] at w
    cases w with
    | cons a b =>
      cases a
      exact .cons _ _ (ih _ b)
theorem script_of {l : OpenLaw} {n : Nat} (hn : l.most = some n) {P : Params} {h : Heap} {args : List WData} {vals : List Value}
    (hpre : l.row.toRowW.claim.pre args = true) (hwl : WellAll P h vals args) :
    ∃ a vs ns, vals = [Value.ref a] ∧ args = [WData.list (ns.map WData.int)] ∧ h.get? a = some { cls := .type "list", data := .seq vs.toArray } ∧ IntsAre vs ns ∧ ns.length ≤ n := by
  have hsh : WShape.hasAll [] args [.list .int] = true := (pre_splitW hpre).1
  have hc : l.pre.holds [] { args := args } = true := (pre_splitW hpre).2
  obtain ⟨d, r, rfl, h1, h2⟩ := hasAllW_cons hsh
  obtain rfl := hasAllW_nil h2
  obtain ⟨xs, rfl, h3⟩ := hasW_list h1
  obtain ⟨ns, rfl⟩ := items_int h3
  have hlen : ns.length ≤ n := by
    unfold OpenLaw.pre at hc
    have h4 : (WTm.not (.lt (.lit (.int (n : Int))) (.len (.arg 0)))).holds [] { args := [.list (ns.map .int)] } = true := by
      have h4 := (holds_andW hc).1
      rw [hn] at h4
      exact h4
    have h5 := condW_of h4 (w_not (w_lt w_lit (w_len_list (w_arg rfl))))
    rw [List.length_map] at h5
    refine Nat.le_of_not_lt fun q => ?_
    have q' : (n : Int) < ((ns.length : Nat) : Int) := by omega
    first
      | (rw [decide_eq_true q'] at h5; exact absurd h5 (by decide))
      | (simp at h5; omega)
  cases hwl with
  | cons w1 w2 =>
    cases w2
    cases w1 with
    | list ho hall => exact ⟨_, _, ns, rfl, rfl, ho, ints_of_wellAll ns _ hall, hlen⟩
theorem post_true (l : OpenLaw) (args : List WData) : l.row.toRowW.claim.post args (.bool true) args = true :=
  postW_of (r := l.row.toRowW) (X := (true == true))
    (show WShape.has [] (.bool true) .bool = true by first | rfl | decide | simp [WShape.has, WShape.arms, WShape.armsAll])
    (show (WTm.eq .res (.lit (.bool true))).value [] { args := args, res := some (.bool true), after := args } = some (.bool (true == true)) from w_eq_bool (w_res rfl) w_lit) rfl
theorem attach_call {l : OpenLaw} {n : Nat} {q : Program} {loose : List Str} {XP : (Str → Option Value) → Heap → Prop} {YP : World → Heap → Prop} {d : DefRec}
    (hn : l.most = some n) (hdf : d.params.defaults = [])
    (call : ∀ (w : World) (s₀ s₁ : Shared) (mg mb : Str → Option Value) (fa : Addr) (o : Obj) (pm cd doc : Value) (a : Addr) (vs : List Value) (ns : List Int),
      Ground q loose [] XP w s₀ mg mb s₁.heap → YP w s₁.heap →
      s₁.heap.get? fa = some o → o.data = .func (docDef d.name d.params d.body d.scope pm cd doc) → s₁.heap.CodeRec cd d.name → mg d.name = some (.ref fa) →
      s₁.heap.get? a = some { cls := .type "list", data := .seq vs.toArray } → IntsAre vs ns → ns.length ≤ n → s₁.gens = #[] →
      codeAny (model l.prog w) callerA (.call (.ref fa) ⟨[.ref a], []⟩) (fun r s' => r = .ok (.ret (.bool true)) ∧ OldK s₁.heap s'.heap ∧ s'.os = s₁.os ∧ AllBare s'.gens) s₁) :
    WalkO q loose XP YP l.row.toRowW d [] (fun f vs => PySem.call f vs) := by
  intro w s₀ s₁ mg mb G Y fa o pm cd doc dV kV ho hd hcd hD hmg hg args vals as hpre hlay hrd hwl hlo
  obtain rfl : dV = .none := Dflts.none hD hdf
  obtain rfl : kV = .none := Dflts.noKw hD
  obtain ⟨a, vs, ns, rfl, rfl, hobj, hints, hlen⟩ := script_of hn hpre hwl
  refine enter_call (codeAny_mono (call w s₀ s₁ mg mb fa o pm cd doc a vs ns G Y ho (fd_plain hd) hcd hmg hobj hints hlen hg) fun r s' hq => ?_)
  obtain ⟨rfl, h2, h3, h4⟩ := hq
  exact ⟨.inl ⟨.bool true, .bool true, [], rfl, fun _ => rfl, .bool true, post_true l _, fun _ => ⟨List.Pairwise.nil, fun _ hm => (nomatch hm)⟩⟩, h2, h3, h4⟩
section
variable {prog : Program} {w : World} {A : Around} {E : Value → Shared → Prop} {s : Shared} {K : Frag}
def noObjs (h : Heap) : Heap := { h with objs := #[] }
theorem noObjs_get (h : Heap) (b : Addr) : (noObjs h).get? b = none := by
  cases e : (noObjs h).get? b with
  | none => rfl
  | some o => exact absurd (Heap.lt_size e) (Nat.not_lt_zero _)
theorem fr_all {h : Heap} {L : Addr} {m : Str → Option Value} (n : h.Ns L m) : Fr (noObjs h) L h m :=
  ⟨n, fun b o e => (by rw [noObjs_get] at e; cases e), Nat.zero_le _⟩
end
end Att
namespace L2
open PySem PySem.Spec PyProof.Rows
theorem vals_ints : ∀ {vs : List Value} {ns : List Int}, IntsAre vs ns → Vals (ns.map V.int) vs
  | _, _, .nil => .nil
  | _, _, .cons n t h => .cons ⟨t, rfl⟩ (vals_ints h)
def Only (H : Hp) : Prop := ∀ b, H b = none ∨ ∃ o xs, H b = some (.frz o (.lst xs))
theorem law_call {P : Program} {w : World} {K : PySem.W.Frag} {mg mb : Str → Option Value} {CX : CXT} {k : Nat} {fa a : Addr} {fd : FuncData} {x : Str} {sp : Sp} {s₁ : Shared} {vs : List Value} {ns : List Int}
    (KX : K.In s₁.heap) (hns : s₁.heap.Ns mainGlobals mg) (hb : s₁.heap.Ns builtinsNs mb) (hbb : ∀ x : Str, x ≠ "__name__" → mb x = bootBuiltins x) (hlim : s₁.heap.NoLimit) (hg : s₁.gens = #[])
    (ha : s₁.heap.get? a = some { cls := .type "list", data := .seq vs.toArray }) (hi : IntsAre vs ns) (hl : ns.length ≤ sizeLine) (hr : Room k callerA)
    (F : ∀ base : Heap, K.In base → base.Ns mainGlobals mg → FnOk P w K mg base CX k fa fd [x] sp) (hbind : ∀ (s : Shared) (u : Value), BindsTo s fd ⟨[u], []⟩ [(x, u)])
    (hsp : ∀ H : Hp, Only H → SqL K H a (ns.map V.int) → sp [.ref a] H (fun v _ => v = .bl true) fun _ _ _ => False)
    (hCX : ∀ H e s', CX [] H s₁ (fun _ _ _ => False) e s' → False) :
    codeAny (model P w) callerA (.call (.ref fa) ⟨[.ref a], []⟩) (fun r s' => r = .ok (.ret (.bool true)) ∧ OldK s₁.heap s'.heap ∧ s'.os = s₁.os ∧ AllBare s'.gens) s₁ := by
  have rv := vals_ints hi
  have lenV := hi.length
  have core : ∀ H : Hp, Only H → SqL K H a (ns.map V.int) → HOk P w H s₁.heap → (∀ b, H b ≠ none → b = a) → (H a ≠ none → K.lookup a = none) →
      codeAny (model P w) callerA (.call (.ref fa) ⟨[.ref a], []⟩) (fun r s' => r = .ok (.ret (.bool true)) ∧ OldK s₁.heap s'.heap ∧ s'.os = s₁.os ∧ AllBare s'.gens) s₁ := by
    intro H hO hS hok hA hK
    have base_of : ∀ {b : Addr} {o : Obj}, s₁.heap.get? b = some o → H b = none → (hidT s₁.heap H).get? b = some o := fun e n => hidT_get e n
    have noA : ∀ {b : Addr} {o : Obj} {es : Array DictEntry} {ep : Nat}, s₁.heap.get? b = some o → o.data = .dict es ep → H b = none := fun {b o es ep} e d => by
      cases q : H b with
      | none => rfl
      | some u =>
        have e' : b = a := hA b (by rw [q]; simp)
        subst e'
        rw [ha] at e; cases e
        have d' : Data.seq vs.toArray _ = Data.dict es ep := d
        cases d'
    have nsK : ∀ {b : Addr} {m : Str → Option Value}, s₁.heap.Ns b m → (hidT s₁.heap H).Ns b m := fun {b m} ⟨o, es, ep, e, d, r⟩ => ⟨o, es, ep, base_of e (noA e d), d, r⟩
    have hKb : K.In (hidT s₁.heap H) := fun b o e => base_of (KX b o e) (by
      cases q : H b with
      | none => rfl
      | some u =>
        have e' : b = a := hA b (by rw [q]; simp)
        subst e'
        rw [hK (by rw [q]; simp)] at e; cases e)
    have hM : Mod K mg (hidT s₁.heap H) := ⟨hKb, nsK hns, ⟨mb, nsK hb, hbb⟩, let ⟨mc, h1, h2⟩ := hlim; ⟨mc, nsK h1, h2⟩⟩
    have e0 : Env0 P w K mg (hidT s₁.heap H) callerA [] s₁ H := ⟨rfl, hM, fun b o e => of_hidT e, Nat.le_of_eq (hidT_size _ _), trivial, fun b hb => absurd (show b ∈ ([] : List Addr) from hb) (by simp), hok, .of_eq hg⟩
    refine codeAny_mono ((F _ hKb (nsK hns)).run callerA [] s₁ H ⟨[.ref a], []⟩ [.ref a] [.ref a] _ _ hr e0 (hbind s₁ (.ref a)) (.cons rfl .nil) (hsp H hO hS)) fun r s' h => ?_
    cases r with
    | error e => exact (hCX H e s' h).elim
    | ok fl =>
      cases fl with
      | next => exact False.elim h
      | brk => exact False.elim h
      | cont => exact False.elim h
      | ret u =>
        obtain ⟨v, H', os, bare, un, hok', r', q⟩ := h
        have q' : v = .bl true := q
        subst q'
        obtain rfl : u = Value.bool true := r'
        refine ⟨rfl, OldK.of_keep fun b o e => ?_, os, bare⟩
        cases q : H b with
        | none => exact un.keep b o e q (by intro z; exact absurd (show b ∈ ([] : List Addr) from z) (by simp)) (by simp)
        | some u =>
          rcases hO b with z | ⟨ob, xs, z⟩
          · rw [q] at z; cases z
          · have z2 := un.frzs b ob _ z
            obtain ⟨e1, _⟩ := hok b _ z
            obtain ⟨e2, _⟩ := hok' b _ z2
            rw [e] at e1; cases e1
            exact e2
  cases hk : K.lookup a with
  | some o =>
    have e := KX a o hk
    rw [ha] at e
    cases e
    refine core (fun _ => none) (fun _ => .inl rfl) (.inr ⟨_, vs.toArray, _, hk, rfl, rfl, rfl, by rw [List.size_toArray, lenV]; exact hl, by simpa using rv⟩) (fun b u z => by have z' : (none : Option HO) = some u := z; cases z') (fun b z => absurd rfl z) fun z => absurd rfl z
  | none =>
    refine core (fun b => if b = a then some (.frz { cls := .type "list", data := .seq vs.toArray } (.lst (ns.map V.int))) else none) (fun b => ?_) (.inl (.inr ⟨{ cls := .type "list", data := .seq vs.toArray }, if_pos rfl⟩)) (fun b u z => ?_) (fun b z => ?_) fun _ => hk
    · by_cases hb : b = a
      · exact .inr ⟨_, _, if_pos hb⟩
      · exact .inl (if_neg hb)
    · by_cases hb : b = a
      · have z' := (if_pos hb).symm.trans z
        cases z'
        subst hb
        exact ⟨ha, by rw [List.length_map]; exact hl, vs, _, rv, ha⟩
      · have z' := (if_neg hb).symm.trans z
        cases z'
    · by_cases hb : b = a
      · exact hb
      · exact absurd (if_neg hb) z
end L2
namespace L2
open PySem PySem.Spec PyProof.Rows
theorem walk_of {l : PySem.W.OpenLaw} {n k : Nat} {q : Program} {loose : List Str} {XP : (Str → Option Value) → Heap → Prop} {YP : World → Heap → Prop} {d : DefRec} {K : Params → PySem.W.Frag} {CX : World → CXT} {sp : World → Sp} {x : Str}
    (hn : l.most = some n) (hn2 : n ≤ sizeLine) (hdf : d.params.defaults = []) (hr : Room k callerA)
    (hY : ∀ (w : World) (h : Heap), YP w h → (K w.params).In h)
    (F : ∀ (w : World) (mg : Str → Option Value) (fa : Addr) (h : Heap), (K w.params).In h → h.Ns mainGlobals mg → mg d.name = some (.ref fa) →
      ∃ fd : FuncData, (∀ (s : Shared) (u : Value), BindsTo s fd ⟨[u], []⟩ [(x, u)]) ∧
        ∀ base : Heap, (K w.params).In base → base.Ns mainGlobals mg → FnOk l.prog w (K w.params) mg base (CX w) k fa fd [x] (sp w))
    (hsp : ∀ (w : World) (H : Hp) (a : Addr) (ns : List Int), ns.length ≤ n → Only H → SqL (K w.params) H a (ns.map V.int) → sp w [.ref a] H (fun v _ => v = .bl true) fun _ _ _ => False)
    (hCX : ∀ (w : World) (H : Hp) (s : Shared) (e : Value) (s' : Shared), CX w [] H s (fun _ _ _ => False) e s' → False) :
    PySem.W.WalkO q loose XP YP l.row.toRowW d [] (fun f vs => PySem.call f vs) := by
  refine Att.attach_call hn hdf fun w s₀ s₁ mg mb fa o pm cd doc a vs ns G Y ho hd hcd hmg hobj hints hlen hg => ?_
  have KX := hY w _ Y
  obtain ⟨fd, hb, hF⟩ := F w mg fa _ KX G.T.g hmg
  exact law_call KX G.T.g G.T.b G.T.builtins G.T.nolimit hg hobj hints (Nat.le_trans hlen hn2) hr hF hb (fun H hO hS => hsp w H a ns hlen hO hS) fun H e s' => hCX w H s₁ e s'
end L2
namespace L2
open PySem PySem.Spec PyProof.Rows
def inClass (s : Stmt) (j : Nat) : Stmt := match s with
  | .ClassDef _ _ _ body _ _ _ _ _ _ _ => body.getD j (.Pass ⟨0, 0, 0, 0⟩)
  | _ => .Pass ⟨0, 0, 0, 0⟩
def defArgs (s : Stmt) : Arguments := match s with
  | .FunctionDef _ a _ _ _ _ _ _ _ _ => a
  | _ => { posonlyargs := [], args := [], vararg := none, kwonlyargs := [], kw_defaults := [], kwarg := none, defaults := [] }
def defBody (s : Stmt) : List Stmt := match s with
  | .FunctionDef _ _ b _ _ _ _ _ _ _ => b
  | _ => []
def defScope (s : Stmt) : Scope := match s with
  | .FunctionDef _ _ _ _ _ _ sc _ _ _ => sc
  | _ => { kind := .function, names := [], isGenerator := false, isCoroutine := false }
abbrev CX0 : CXT := fun _ _ _ _ _ _ => False
abbrev E0 : XK := fun _ _ _ => False
theorem pass0 {X : Cx} : Passes CX0 X E0 := fun _ _ _ _ _ _ _ h => h.elim
structure Fun (K : PySem.W.Frag) (x qual : Str) (st : Stmt) (f : Addr) (fd : FuncData) : Prop where
  ex : ∃ (oc : Value) (od : Option Addr) (kV doc pm : Value) (an : Option Addr) (cdv ct : Value) (osl : Array (Option Value)),
    fd = PySem.W.fnOf x qual (defArgs st) (defBody st) (defScope st) .none kV doc pm an cdv ct ∧ K.lookup f = some ⟨oc, od, .func fd, osl⟩ ∧ PySem.W.codeIn K cdv qual = true
  kp : PySem.W.keepIn K (.ref f) = true
section
variable {P : Program} {w : World} {K : PySem.W.Frag} {mg : Str → Option Value} {base : Heap}
theorem Fun.ok {x qual : Str} {st : Stmt} {f : Addr} {fd : FuncData} {N ps : List Str} {k : Nat} {sp : Sp} (F : Fun K x qual st f fd) (S : FnScope N ps (defScope st)) (len : ∀ vs H Q E, sp vs H Q E → vs.length = ps.length)
    (hbody : ∀ (cdv : Value) (A : Around) (outer : List Env) (s : Shared) (H : Hp) (vs : List V) (Q : VK) (E : XK), Room k (A.deeper (envOfC qual (defScope st) s.heap.objs.size f cdv)) → sp vs H Q E →
      ∃ t, PSs (cxOf CX0 P w K mg base N qual (defScope st) f cdv A outer s H E).nox (defBody st) t ∧ t { nx := fun _ H' => Q .non H', rt := Q } (start N vs) H) : FnOk P w K mg base CX0 (k + 1) f fd ps sp := by
  obtain ⟨oc, od, kV, doc, pm, an, cdv, ct, osl, rfl, lk, hcd⟩ := F.ex
  refine fn_of lk hcd S len fun A outer s H vs Q E hr hsp => ?_
  obtain ⟨t, h, q⟩ := hbody cdv A outer s H vs Q E hr hsp
  exact ⟨t, h.nox, q⟩
theorem Fun.binds {x qual : Str} {st : Stmt} {f : Addr} {fd : FuncData} {ps : List Str} (F : Fun K x qual st f fd)
    (h : ∀ (kV doc pm : Value) (an : Option Addr) (cdv ct : Value) (us : List Value), us.length = ps.length → bindArgs (PySem.W.fnOf x qual (defArgs st) (defBody st) (defScope st) .none kV doc pm an cdv ct) ⟨us, []⟩ = pure (ps.zip us)) : Binds K fd ps [] := by
  obtain ⟨oc, od, kV, doc, pm, an, cdv, ct, osl, rfl, lk, hcd⟩ := F.ex
  exact .all (h kV doc pm an cdv ct)
theorem fun_mk {x qual : Str} {st : Stmt} {f : Addr} {oc : Value} {od an : Option Addr} {osl : Array (Option Value)} {kV doc pm cdv ct : Value} (l : K.lookup f = some ⟨oc, od, .func (PySem.W.fnOf x qual (defArgs st) (defBody st) (defScope st) .none kV doc pm an cdv ct), osl⟩)
    (c : PySem.W.codeIn K cdv qual = true) (k : PySem.W.keepIn K (.ref f) = true) : Fun K x qual st f (PySem.W.fnOf x qual (defArgs st) (defBody st) (defScope st) .none kV doc pm an cdv ct) := ⟨⟨oc, od, kV, doc, pm, an, cdv, ct, osl, rfl, l, c⟩, k⟩
end
theorem hu_of {A : Around} {k : Nat} (hr : Room k A) : A.units + 1 < cLine := Nat.lt_of_le_of_lt (Nat.add_le_add_left (by decide : 1 ≤ 64) _) hr.units
section
variable {X : Cx}
theorem pv (i : Nat) {x : Str} {pos : Pos} (hN : X.N[i]? = some x := by rfl) (hv : Vis X.env.scope x := by first | exact Or.inl rfl | exact Or.inr (Or.inl rfl) | exact Or.inr (Or.inr rfl)) (hd : (x == ("__debug__" : Str)) = false := by decide)
    (hcd : (x == ("__classdict__" : Str)) = false := by decide) : PE X (.Name x pos) (tVar i) := pe_var hN hv hd hcd
end
theorem iteF {A B : Prop} (h : B) : if false = true then A else B := by
  rw [if_neg Bool.false_ne_true]
  exact h
theorem iteT {A B : Prop} (h : A) : if true = true then A else B := by
  rw [if_pos rfl]
  exact h
theorem ite2 {c A B : Prop} [Decidable c] (h1 : c → A) (h2 : ¬ c → B) : if c then A else B := by
  by_cases h : c
  · rw [if_pos h]
    exact h1 h
  · rw [if_neg h]
    exact h2 h
def Same (H H' : Hp) : Prop := ∀ b o, H b = some o → H' b = some o
theorem Same.refl (H : Hp) : Same H H := fun _ _ h => h
theorem Same.trans {H H1 H2 : Hp} (a : Same H H1) (b : Same H1 H2) : Same H H2 := fun c o h => b c o (a c o h)
theorem Same.free {H H' : Hp} (e : Same H H') {l : Addr} (h : H' l = Option.none) : H l = Option.none := by
  cases q : H l with
  | none => rfl
  | some o =>
    rw [e l o q] at h
    cases h
theorem Same.seq {K : PySem.W.Frag} {H H' : Hp} {a : Addr} {xs : List V} (e : Same H H') (h : SqL K H a xs) : SqL K H' a xs := by
  rcases h with (h | ⟨o, h⟩) | h
  · exact .inl (.inl (e _ _ h))
  · exact .inl (.inr ⟨o, e _ _ h⟩)
  · exact .inr h
end L2
set_option maxHeartbeats 4000000
namespace L2
open PySem PySem.Spec PyProof.Rows
section
variable {X : Cx} {tg : Expr}
end
def pick (ix : List Nat) (σ : St) : St := ix.map fun i => (σ[i]?).join
def closOf (scope : Scope) (env : Env) : List (Str × Addr) := scope.names.foldl (fun cs y => if y.2 == .free then (y.1, (env.cells.lookup y.1).getD 0) :: cs else cs) []
theorem clos_mem (env : Env) : ∀ (l : List (Str × NameKind)) (acc : List (Str × Addr)) (p : Str × Addr), p ∈ l.foldl (fun cs y => if y.2 == NameKind.free then (y.1, (env.cells.lookup y.1).getD 0) :: cs else cs) acc →
    p ∈ acc ∨ ((p.1, NameKind.free) ∈ l ∧ p.2 = (env.cells.lookup p.1).getD 0)
  | [], _, _, h => .inl h
  | y :: l, acc, p, h => by
    rw [List.foldl_cons] at h
    rcases clos_mem env l _ p h with h1 | h1
    · by_cases hy : (y.2 == NameKind.free) = true
      · rw [if_pos hy] at h1
        rcases List.mem_cons.mp h1 with e | e
        · refine .inr ⟨?_, by rw [e]⟩
          have hk : y.2 = NameKind.free := by simpa using hy
          rw [e, ← hk]
          exact List.mem_cons_self
        · exact .inl e
      · rw [if_neg hy] at h1
        exact .inl h1
    · exact .inr ⟨List.mem_cons_of_mem _ h1.1, h1.2⟩
theorem clos_acc (env : Env) : ∀ (l : List (Str × NameKind)) (acc : List (Str × Addr)) (p : Str × Addr), p ∈ acc → p ∈ l.foldl (fun cs y => if y.2 == NameKind.free then (y.1, (env.cells.lookup y.1).getD 0) :: cs else cs) acc
  | [], _, _, h => h
  | y :: l, acc, p, h => by
    rw [List.foldl_cons]
    apply clos_acc env l
    split
    · exact List.mem_cons_of_mem _ h
    · exact h
theorem clos_has (env : Env) : ∀ (l : List (Str × NameKind)) (acc : List (Str × Addr)) (x : Str), (x, NameKind.free) ∈ l → ∃ c, (x, c) ∈ l.foldl (fun cs y => if y.2 == NameKind.free then (y.1, (env.cells.lookup y.1).getD 0) :: cs else cs) acc
  | [], _, _, h => nomatch h
  | y :: l, acc, x, h => by
    rw [List.foldl_cons]
    rcases List.mem_cons.mp h with e | e
    · subst e
      refine ⟨(env.cells.lookup x).getD 0, clos_acc env l _ _ ?_⟩
      rw [if_pos (by rfl)]
      exact List.mem_cons_self
    · exact clos_has env l _ x e
theorem lookup_some_of_mem {α : Type} : ∀ {l : List (Str × α)} {x : Str} {c : α}, (x, c) ∈ l → ∃ d, l.lookup x = some d
  | [], _, _, h => nomatch h
  | (y, d) :: l, x, c, h => by
    by_cases hx : (x == y) = true
    · exact ⟨d, by simp [List.lookup_cons, hx]⟩
    · have hx' : (x == y) = false := by simpa using hx
      rcases List.mem_cons.mp h with e | e
      · cases e
        simp at hx
      · obtain ⟨d', e'⟩ := lookup_some_of_mem e
        exact ⟨d', by simp [List.lookup_cons, hx', e']⟩
theorem clos_get {scope : Scope} {env : Env} (hf : ∀ y ∈ scope.names, y.2 = .free → ∃ c, env.cells.lookup y.1 = some c) {x : Str} {c : Addr} (h : (closOf scope env).lookup x = some c) : env.cells.lookup x = some c := by
  rcases clos_mem env scope.names [] (x, c) (PySem.mem_of_lookup h) with e | ⟨e1, e2⟩
  · exact nomatch e
  · obtain ⟨d, hd⟩ := hf _ e1 rfl
    have hd' : env.cells.lookup x = some d := hd
    have e3 : c = (env.cells.lookup x).getD 0 := e2
    rw [hd'] at e3 ⊢
    rw [e3]
    rfl
theorem clos_look {scope : Scope} {env : Env} {x : Str} (h : scope.names.lookup x = some .free) : ∃ c, (closOf scope env).lookup x = some c := by
  obtain ⟨c, hc⟩ := clos_has env scope.names [] x (PySem.mem_of_lookup h)
  exact lookup_some_of_mem hc
theorem closureFor_of {scope : Scope} {env : Env} (hf : ∀ y ∈ scope.names, y.2 = .free → ∃ c, env.cells.lookup y.1 = some c) : closureFor scope env = pure (closOf scope env) := by
  have all : ∀ (l : List (Str × NameKind)) (acc : List (Str × Addr)), (∀ y ∈ l, y.2 = .free → ∃ c, env.cells.lookup y.1 = some c) →
      (forIn l acc fun (x : Str × NameKind) (r : List (Str × Addr)) => if (x.2 == NameKind.free) = true then (do let a ← cellOf env x.1; pure (ForInStep.yield ((x.1, a) :: r))) else pure (ForInStep.yield r) : Sem (List (Str × Addr))) =
        pure (l.foldl (fun cs y => if y.2 == .free then (y.1, (env.cells.lookup y.1).getD 0) :: cs else cs) acc) := by
    intro l
    induction l with
    | nil => intro acc _; rfl
    | cons y l ih =>
      intro acc h
      rw [List.forIn_cons, List.foldl_cons]
      by_cases hy : (y.2 == NameKind.free) = true
      · obtain ⟨c, hc⟩ := h y List.mem_cons_self (by simpa using hy)
        rw [if_pos hy, if_pos hy]
        have e : cellOf env y.1 = pure c := by unfold cellOf; rw [hc]
        rw [e, hc]
        exact ih _ fun z hz => h z (List.mem_cons_of_mem _ hz)
      · rw [if_neg hy, if_neg hy]
        exact ih _ fun z hz => h z (List.mem_cons_of_mem _ hz)
  show ((forIn scope.names [] fun (x : Str × NameKind) (r : List (Str × Addr)) => if (x.2 == NameKind.free) = true then (do let a ← cellOf env x.1; pure (ForInStep.yield ((x.1, a) :: r))) else pure (ForInStep.yield r) : Sem (List (Str × Addr))) >>= fun r => pure r) = _
  rw [all scope.names [] hf]
  rfl
structure LcScope (scope : Scope) (x : Str) (fv : List Str) (osc : Scope) : Prop where
  kind : scope.kind = .function
  nocell : ∀ y ∈ scope.names, y.2 ≠ .cell
  names : ∀ y ∈ scope.names, y.2 = .local → scope.names.lookup y.1 = some .local
  tgt : scope.names.lookup x = some .local
  free : ∀ y ∈ scope.names, y.2 = .free → osc.names.lookup y.1 = some .cell ∨ osc.names.lookup y.1 = some .free
  fvs : ∀ y ∈ fv, scope.names.lookup y = some .free
  nd : (x :: fv).Nodup
theorem relabel_free {scope : Scope} {env : Env} : ∀ {names : List (Str × NameKind)} {x : Str}, names.lookup x = some .free →
    (names.map fun (n, k) => if (k == NameKind.free && env.scope.kind == .function && env.kindOf n == some .cell) then (n, NameKind.cell) else (n, k)).lookup x = some .cell ∨
    (names.map fun (n, k) => if (k == NameKind.free && env.scope.kind == .function && env.kindOf n == some .cell) then (n, NameKind.cell) else (n, k)).lookup x = some .free
  | [], _, h => by simp at h
  | (n, k) :: r, x, h => by
    have ih := @relabel_free scope env r x
    show List.lookup x ((if (k == NameKind.free && env.scope.kind == .function && env.kindOf n == some .cell) = true then (n, NameKind.cell) else (n, k)) :: _) = _ ∨ List.lookup x ((if (k == NameKind.free && env.scope.kind == .function && env.kindOf n == some .cell) = true then (n, NameKind.cell) else (n, k)) :: _) = _
    cases hx : x == n with
    | true =>
      simp only [List.lookup_cons, hx] at h
      cases h
      by_cases hc : (NameKind.free == NameKind.free && env.scope.kind == .function && env.kindOf n == some .cell) = true
      · rw [if_pos hc]; left; simp [List.lookup_cons, hx]
      · rw [if_neg hc]; right; simp [List.lookup_cons, hx]
    | false =>
      simp only [List.lookup_cons, hx] at h
      by_cases hc : (k == NameKind.free && env.scope.kind == .function && env.kindOf n == some .cell) = true
      · rw [if_pos hc]; simp only [List.lookup_cons, hx]; exact ih h
      · rw [if_neg hc]; simp only [List.lookup_cons, hx]; exact ih h
theorem relabel_back {env : Env} : ∀ {names : List (Str × NameKind)} {x : Str}, (∀ y ∈ names, y.2 ≠ NameKind.cell) →
    ((names.map fun (n, k) => if (k == NameKind.free && env.scope.kind == .function && env.kindOf n == some .cell) then (n, NameKind.cell) else (n, k)).lookup x = some .cell ∨
    (names.map fun (n, k) => if (k == NameKind.free && env.scope.kind == .function && env.kindOf n == some .cell) then (n, NameKind.cell) else (n, k)).lookup x = some .free) → names.lookup x = some .free
  | [], _, _, h => by simp at h
  | (n, k) :: r, x, hn, h => by
    have ih := @relabel_back env r x fun y hy => hn y (List.mem_cons_of_mem _ hy)
    have hk := hn (n, k) List.mem_cons_self
    change List.lookup x ((if (k == NameKind.free && env.scope.kind == .function && env.kindOf n == some .cell) = true then (n, NameKind.cell) else (n, k)) :: _) = _ ∨ List.lookup x ((if (k == NameKind.free && env.scope.kind == .function && env.kindOf n == some .cell) = true then (n, NameKind.cell) else (n, k)) :: _) = _ at h
    cases hx : x == n with
    | true =>
      by_cases hc : (k == NameKind.free && env.scope.kind == .function && env.kindOf n == some .cell) = true
      · have hf : k = NameKind.free := by
          rw [Bool.and_eq_true, Bool.and_eq_true] at hc
          simpa using hc.1.1
        subst hf
        simp [List.lookup_cons, hx]
      · rw [if_neg hc] at h
        simp only [List.lookup_cons, hx] at h ⊢
        rcases h with h | h
        · cases h; exact absurd rfl hk
        · exact h
    | false =>
      by_cases hc : (k == NameKind.free && env.scope.kind == .function && env.kindOf n == some .cell) = true
      · rw [if_pos hc] at h; simp only [List.lookup_cons, hx] at h ⊢; exact ih h
      · rw [if_neg hc] at h; simp only [List.lookup_cons, hx] at h ⊢; exact ih h
def Cx.comp (X : Cx) (scope : Scope) (N' : List Str) (C : Addr) (s₀ : Shared) (H₀ : Hp) (ex : List Addr) : Cx where
  prog := X.prog
  w := X.w
  K := X.K
  mg := X.mg
  base := X.base
  A := X.A
  N := N'
  s₀ := s₀
  H₀ := H₀
  env := compEnvC scope (closOf scope X.env) C X.env
  outer := X.stack
  stack := X.stack
  ex := ex
  fn := fun _ => false
  calm := X.calm
  pn := []
  xe := fun _ _ => False
def PIfs (X : Cx) (ifs : List Expr) (t : TT) : Prop :=
  ∀ (pins : List (Addr × Obj)) (s : Shared) (σ : St) (H : Hp) (Q : Bool → Hp → Prop), Inv X pins σ H s → t σ H Q →
    wpAny (model X.prog X.w) X.A (forIn ifs true fun c r => if r = true then do let ok ← isTrue c X.env (eval c X.env); pure (ForInStep.yield ok) else pure (ForInStep.yield r)) (TP X pins σ Q) X.xe s
def tYes : TT := fun _ H Q => Q true H
theorem pifs_nil {X : Cx} : PIfs X [] tYes := fun _ _ _ H _ I h => wpAny_tests_nil ⟨H, I, h⟩
theorem pifs_one {X : Cx} {c : Expr} {t : TT} (h : PT X c t) : PIfs X [c] t := fun pins s σ H Q I q => wpAny_tests_one (h pins s σ H Q I q)
def LcW (J : It) (ix : List Nat) (σ : St) (tt : TT) (te : TE) (Q : VK) (H1 : Hp) : Prop := ∃ W : Nat → Nat → List V → Hp → Prop, (∃ m, W 0 m [] H1) ∧ ∀ i m ys H2, W i m ys H2 →
  (J.stop i H2 ∧ ∀ D, H2 D = none → Q (.ref D) (upd H2 D (.lst ys))) ∨
  (J.go i H2 ∧ ys.length < sizeLine ∧ ∀ x H3, J.yld i H2 x H3 → tt (some x :: pick ix σ) H3 fun b H4 => if b = true then te (some x :: pick ix σ) H4 fun y H5 => ∃ m', m' < m ∧ W (i + 1) m' (ys ++ [y]) H5 else ∃ m', m' < m ∧ W (i + 1) m' ys H4)
def tLC (ix : List Nat) (wi : TI) (tt : TT) (te : TE) : TE := fun σ H Q => wi σ H fun J H1 => LcW J ix σ tt te Q H1
theorem codeAny_compLoop_own {prog : Program} {w : World} {A : Around} {R : Result → Shared → Prop} {s : Shared} {elt target iter : Expr} {ifs : List Expr} {scope : Scope} {pos : Pos} {it acc : Value} {env : Env} (I : Nat → Shared → Prop)
    (turn : ∀ n s, I n s → wpAny (model prog w) A (pyNext it) (fun r s₁ => match r with
      | none => R (.ok .next) s₁
      | some v => wpAny (model prog w) A (letOwnedTupleGo target it v) (fun _ s₁ => wpAny (model prog w) A (assign target env v) (fun _ s₂ =>
          wpAny (model prog w) A (forIn ifs true fun c r => if r = true then do let ok ← isTrue c env (eval c env); pure (ForInStep.yield ok) else pure (ForInStep.yield r)) (fun ok s₃ =>
            if ok = true then wpAny (model prog w) A (eval elt env) (fun x s₄ =>
              wpAny (model prog w) A (call (.builtin "list.append") [acc, x]) (fun _ s₅ => ∃ m, m < n ∧ I m s₅) (fun _ _ => False) s₄) (fun _ _ => False) s₃
            else ∃ m, m < n ∧ I m s₃) (fun _ _ => False) s₂) (fun _ _ => False) s₁) (fun _ _ => False) s₁) (fun _ _ => False) s)
    (n : Nat) (h : I n s) :
    codeAny (model prog w) A (.compLoop (.ListComp elt [⟨target, iter, ifs, 0⟩] scope pos) 0 it acc env) R s := by
  refine codeAny_loop rfl I (fun n s hI => ?_) n h
  show wpAny _ A ((compTurn (.ListComp elt [⟨target, iter, ifs, 0⟩] scope pos) 0 it acc env).onRaise (fun x => do noteFrame x env; theTreesLotGoes x)) _ _ s
  refine wpAny_noted ?_
  rw [compTurn_list]
  refine wpAny_bind (wpAny_standAt (wpAny_bind (wpAny_mono (turn n s hI) (fun r s₁ h₁ => ?_) fun _ _ h' => h'.elim)))
  cases r with
  | none => exact wpAny_pure h₁
  | some v =>
    refine wpAny_bind (wpAny_mono h₁ (fun _ s₁' h₁' => ?_) fun _ _ h' => h'.elim)
    refine wpAny_bind (wpAny_mono h₁' (fun _ s₂ h₂ => wpAny_bind (wpAny_mono h₂ (fun ok s₃ h₃ => ?_) fun _ _ h' => h'.elim)) fun _ _ h' => h'.elim)
    cases ok with
    | false => exact wpAny_pure ⟨rfl, h₃⟩
    | true =>
      exact wpAny_bind (wpAny_bind (wpAny_mono h₃ (fun x s₄ h₄ => wpAny_bind (wpAny_mono h₄ (fun _ s₅ h₅ => wpAny_pure (wpAny_pure ⟨rfl, h₅⟩)) fun _ _ h' => h'.elim)) fun _ _ h' => h'.elim))
section
variable {X : Cx} {scope : Scope} {x : Str} {fv : List Str} {ix : List Nat}
theorem LcScope.cells (S : LcScope scope x fv X.env.scope) (ok : X.Ok) : ∀ y ∈ scope.names, y.2 = .free → ∃ c, X.env.cells.lookup y.1 = some c := fun y hy hf => by
  rcases S.free y hy hf with e | e
  · exact ok.has y.1 (.inl e)
  · exact ok.has y.1 (.inr e)
theorem comp_ok {pins : List (Addr × Obj)} {σ : St} {H : Hp} {s : Shared} {C : Addr} {fp : List Addr} (S : LcScope scope x fv X.env.scope) (I : Inv X pins σ H s) (hC : s.heap.objs.size ≤ C) (f2 : ∀ b ∈ fp, FpOk X pins H b) (fl : ∀ b ∈ fp, b < s.heap.objs.size) :
    (X.comp scope (x :: fv) C s H fp).Ok := by
  have hcl := S.cells I.ok
  refine ⟨I.ok.mod, S.kind, I.ok.glob, I.ok.blt, hC, fun y z c h1 h2 => I.ok.inj y z c (clos_get hcl h1) (clos_get hcl h2), fun y hy => ?_, fun y c hfn _ => absurd (show false = true from hfn) (by decide), I.ok.hd, I.ok.frames, .inl rfl,
    fun b hb => ⟨Nat.ne_of_lt (Nat.lt_of_lt_of_le (fl b hb) hC), fun y c h1 => (f2 b hb).2.2.2.2.1 y c (clos_get hcl h1)⟩, I.bs, Nat.le_trans I.ok.bsz I.sz, fun b o e hb => ?_, fun b hb hs => ?_, I.stack, I.stkFree⟩
  · exact clos_look (relabel_back S.nocell hy)
  · rcases (f2 b hb).2.2.2.1 with z | z
    · exact I.ok.noex b o e z
    · exact absurd (Nat.lt_of_lt_of_le (Heap.lt_size (I.ok.bs b o e).1) z) (Nat.lt_irrefl _)
  · rcases List.mem_cons.mp (I.stkSub b hs) with z | z
    · exact (f2 b hb).2.1 z
    · exact (f2 b hb).2.2.1 z
end
end L2
namespace L2
open PySem PySem.Spec PyProof.Rows
section
variable {X : Cx} {scope : Scope} {x : Str} {fv : List Str} {ix : List Nat}
def lobj (its : List Value) (n : Nat) : Obj := { cls := .type "list", data := .seq its.toArray n }
theorem comp_start {pins : List (Addr × Obj)} {σ : St} {H : Hp} {s : Shared} {C D : Addr} {fp : List Addr} {h₁ : Heap} {m : Str → Option Value} {tk n : Nat} (S : LcScope scope x fv X.env.scope) (hix : ix.map (fun i => X.N[i]?) = fv.map some) (I : Inv X pins σ H s)
    (hD : s.heap.objs.size ≤ D) (hDC : D ≠ C) (hC : s.heap.objs.size ≤ C) (f2 : ∀ b ∈ fp, FpOk X pins H b) (fl : ∀ b ∈ fp, b < s.heap.objs.size)
    (hns : h₁.Ns C m) (old : ∀ b o, s.heap.get? b = some o → h₁.get? b = some o) (hacc : h₁.get? D = some (lobj [] n)) :
    Inv (X.comp scope (x :: fv) C s H fp) [(D, lobj [] n)] (none :: pick ix σ) H { s with heap := h₁, toks := tk } := by
  have hcl := S.cells I.ok
  refine ⟨comp_ok S I hC f2 fl, rfl, I.bare, Un.kept old, ⟨m, hns, fun i y v h1 h2 h3 => ?_⟩, fun y c h1 => ?_, I.hok.fresh hC, fun y c h1 => I.freeC y c (clos_get hcl h1), fun p hp => ?_, I.hok.kept old, ?_⟩
  · cases i with
    | zero => simp at h2
    | succ i =>
      have h1' : fv[i]? = some y := by simpa [Cx.comp] using h1
      have h2' : (pick ix σ)[i]? = some (some v) := by simpa using h2
      unfold pick at h2'
      rw [List.getElem?_map] at h2'
      cases e : ix[i]? with
      | none => rw [e] at h2'; cases h2'
      | some j =>
        rw [e] at h2'
        have e2 : (σ[j]?).join = some v := by simpa using h2'
        have e3 : σ[j]? = some (some v) := by
          cases q : σ[j]? with
          | none => rw [q] at e2; cases e2
          | some o => rw [q] at e2; rw [show o = some v from e2]
        have e4 : X.N[j]? = some y := by
          have := congrArg (fun l => l[i]?) hix
          simp only [List.getElem?_map, e, h1', Option.map_some] at this
          exact Option.some.inj this
        have hyf := S.fvs y (List.mem_of_getElem? h1')
        have hout := S.free (y, .free) (PySem.mem_of_lookup hyf) rfl
        obtain ⟨m0, hn0, hl0⟩ := I.loc
        obtain ⟨u, r, lk⟩ := hl0 j y v e4 e3 (hout.elim (fun z => .inr (.inl z)) fun z => .inr (.inr z))
        refine ⟨u, r, .inr ⟨?_, ?_⟩⟩
        · exact relabel_free (scope := scope) (env := X.env) hyf
        · rcases lk with ⟨k, _⟩ | ⟨_, c, hc, hcell⟩
          · rcases hout with z | z
            · have k' : X.env.scope.names.lookup y = some .local := k
              rw [show X.env.scope.names.lookup y = some .cell from z] at k'; cases k'
            · have k' : X.env.scope.names.lookup y = some .local := k
              rw [show X.env.scope.names.lookup y = some .free from z] at k'; cases k'
          · obtain ⟨c', hc'⟩ := clos_look (env := X.env) hyf
            have e5 := clos_get hcl hc'
            rw [hc] at e5
            cases e5
            obtain ⟨o, ho, hd⟩ := hcell
            exact ⟨c, hc', o, old c o ho, hd⟩
  · obtain ⟨v, o, ho, hd⟩ := I.cell y c (clos_get hcl h1)
    exact ⟨v, o, old c o ho, hd⟩
  · have hp' : p = (D, lobj [] n) := by simpa [Cx.comp] using hp
    subst hp'
    refine ⟨hacc, I.hok.fresh hD, hDC, fun hs => ?_, fun v z => ?_⟩
    · rcases List.mem_cons.mp (I.stkSub _ hs) with z | z
      · exact absurd (show D = X.env.locals from z) (Nat.ne_of_gt (Nat.lt_of_lt_of_le I.lt hD))
      · exact I.nofs hD z
    · have z' : Data.seq _ _ = Data.cell v := z
      cases z'
  · show (none :: pick ix σ).length = (x :: fv).length
    have := congrArg List.length hix
    simp only [List.length_map] at this
    simp [pick, this]
theorem comp_end {pins : List (Addr × Obj)} {σ σ' : St} {H H' : Hp} {s s1 : Shared} {C D : Addr} {fp : List Addr} {h' : Heap} {its : List Value} {ys : List V} {n : Nat} (I : Inv X pins σ H s)
    (hD : s.heap.objs.size ≤ D) (hC : s.heap.objs.size ≤ C) (f2 : ∀ b ∈ fp, FpOk X pins H b)
    (I1 : Inv (X.comp scope (x :: fv) C s H fp) [(D, lobj its n)] σ' H' s1) (hs : Heap.SameBut C s1.heap h') (rv : Vals ys its) (hz : ys.length ≤ sizeLine) :
    Inv X pins σ (upd H' D (.lst ys)) { s1 with heap := h' } ∧ H' D = none := by
  obtain ⟨eD, nD, neD, nfD, _⟩ := I1.pin (D, lobj its n) (by simp [Cx.comp])
  have neDC : D ≠ C := neD
  have hfree : H' C = none := I1.free
  have eD' : h'.get? D = some (lobj its n) := (hs.2 D neDC).trans eD
  have lt : ∀ b o, s.heap.get? b = some o → b ≠ C ∧ b ≠ D := fun b o e => ⟨Nat.ne_of_lt (Nat.lt_of_lt_of_le (Heap.lt_size e) hC), Nat.ne_of_lt (Nat.lt_of_lt_of_le (Heap.lt_size e) hD)⟩
  have U : Un (frs X.stack) fp H H' s.heap s1.heap := I1.base
  have nDof : ∀ b u, H' b = some u → b ≠ D := fun b u e => ne_of_none e nD
  have U' : Un (frs X.stack) fp H (upd H' D (.lst ys)) s.heap h' := by
    refine ⟨fun b o e n hb he => ?_, fun b o e n hb he => ?_, fun b o e n he => ?_, fun b o e he => ?_, fun b xs e => ?_, fun b o u e => ?_, fun b ps e => ?_⟩
    · exact (hs.2 b (lt b o e).1).trans (U.keep b o e n hb he)
    · obtain ⟨sl, q⟩ := U.slot b o e n hb he
      exact ⟨sl, (hs.2 b (lt b o e).1).trans q⟩
    · rw [upd_ne (lt b o e).2]
      exact U.free b o e n he
    · obtain ⟨o', q⟩ := U.there b o e he
      exact ⟨o', (hs.2 b (lt b o e).1).trans q⟩
    · have := U.tups b xs e
      rw [upd_ne (nDof b _ this)]; exact this
    · have := U.frzs b o u e
      rw [upd_ne (nDof b _ this)]; exact this
    · obtain ⟨more, this⟩ := U.tbls b ps e
      exact ⟨more, by rw [upd_ne (nDof b _ this)]; exact this⟩
  have hok : HOk X.prog X.w (upd H' D (.lst ys)) h' := fun b u e => by
    by_cases hb : b = D
    · subst hb
      rw [upd_same] at e
      cases e
      exact ⟨hz, its, n, rv, eD'⟩
    · rw [upd_ne hb] at e
      refine (I1.hok b u e).stay (fun c v hc q => (hs.2 c ?_).trans q) (fun c q => by rw [upd_ne (nDof c _ q)]; exact q) fun c xs q => by rw [upd_ne (nDof c _ q)]; exact q
      rintro rfl
      rcases hc with hc | hc
      · rw [← hc, hfree] at e; cases e
      · rw [hfree] at hc; cases hc
  exact ⟨I.call' (s' := { s1 with heap := h' }) (ch := fp) I1.os U' hok I1.bare fun b hb => ⟨(f2 b hb).2.2.2.1, (f2 b hb).2.1, (f2 b hb).2.2.2.2.1, (f2 b hb).2.2.2.2.2⟩, nD⟩
theorem pe_lc {elt iter : Expr} {ifs : List Expr} {px pos : Pos} {wi : TI} {tt : TT} {te : TE} {osc : Scope} (hc : X.calm = true) (S₀ : LcScope scope x fv osc) (hix : ix.map (fun i => X.N[i]?) = fv.map some) (hi : PI X (.Name x px) iter wi)
    (ht : ∀ (C : Addr) (s₀ : Shared) (H₀ : Hp) (ex : List Addr), PIfs (X.comp scope (x :: fv) C s₀ H₀ ex) ifs tt)
    (he : ∀ (C : Addr) (s₀ : Shared) (H₀ : Hp) (ex : List Addr), PE (X.comp scope (x :: fv) C s₀ H₀ ex) elt te)
    (hosc : X.env.scope = osc := by rfl) (hs : ∀ x, foldedSetIterable iter X.env x = pure x := by intro _; rfl) : PE X (.ListComp elt [⟨.Name x px, iter, ifs, 0⟩] scope pos) (tLC ix wi tt te) := by
  have S : LcScope scope x fv X.env.scope := hosc ▸ S₀
  intro pins s σ H Q I h
  rw [eval_ListComp]
  refine wpAny_comprehension_free (use := none) (cl := closOf scope X.env) rfl hs (closureFor_of (S.cells I.ok)) S.kind S.names ?_
  refine thn (hi pins s σ H _ I h) fun v s1 h1 => thn h1 fun itv s2 h2 => ?_
  obtain ⟨it, fp, tn, J, H2, e, I2, T, st2, f2, W, ⟨m0, w0⟩, turn⟩ := h2
  subst e
  have fl : ∀ b ∈ fp, b < s2.heap.objs.size := fun b hb => by obtain ⟨o, e, _⟩ := T.obj _ _ st2 b hb; exact Heap.lt_size e
  refine wpAny_newObj_type (wpAny_newFunctionEnv S.nocell (by intro y hy; simp at hy) (fun h₁ hns₁ hsb₁ => ?_) S.kind)
  dsimp only at hns₁ hsb₁ ⊢
  generalize hH2 : s2.heap.push { cls := .type "list", dict := none, data := .seq ([] : List Value).toArray } = hp2 at hns₁ hsb₁ ⊢
  have hCe : hp2.objs.size = s2.heap.objs.size + 1 := by rw [← hH2, Heap.size_push]
  generalize hCC : hp2.objs.size = C at hns₁ hsb₁ ⊢
  generalize hDD : s2.heap.objs.size = D at *
  have hDC : D ≠ C := by omega
  have hD : s2.heap.objs.size ≤ D := by omega
  have hC : s2.heap.objs.size ≤ C := by omega
  have nbC : ∀ b : Nat, b < s2.heap.objs.size → b ≠ C := fun b hb => by omega
  have nbD : ∀ b : Nat, b < s2.heap.objs.size → b ≠ D := fun b hb => by omega
  have old : ∀ b o, s2.heap.get? b = some o → h₁.get? b = some o := fun b o e => hsb₁.extBut b o (nbC b (Heap.lt_size e)) (Heap.get?_push_of_some _ (hH2 ▸ Heap.get?_push_of_some _ e))
  have hacc : h₁.get? D = some (lobj [] 0) := hsb₁.extBut _ _ hDC (Heap.get?_push_of_some _ (hH2 ▸ hDD ▸ Heap.get?_push_size _ rfl))
  have st3 : tn 0 h₁ := T.keep _ _ _ st2 fun b _ o e => old b o e
  have I3 : Inv (X.comp scope (x :: fv) C s2 H2 fp) [(D, lobj [] 0)] (none :: pick ix σ) H2 { s2 with heap := h₁, toks := s2.toks + ([] : List (Str × Value)).length } := comp_start S hix I2 hD hDC hC f2 (fun b hb => hDD.symm ▸ fl b hb) hns₁ old hacc
  have fpD : ∀ b ∈ fp, b ≠ D := fun b hb => nbD b (hDD.symm ▸ fl b hb)
  have hcl := S.cells I2.ok
  have stat : ∀ {H' : Hp} {its : List Value} {n : Nat}, (∀ b ∈ fp, H' b = none) → ∀ b ∈ fp, FpOk (X.comp scope (x :: fv) C s2 H2 fp) [(D, lobj its n)] H' b := fun {H' its n} hn b hb => by
    obtain ⟨_, g1, g2, g3, g4, g5⟩ := f2 b hb
    refine ⟨hn b hb, (nbC b (hDD.symm ▸ fl b hb)), fun z => ?_, .inl hb, fun y c h1 => g4 y c (clos_get hcl h1), fun p hp => ?_⟩
    · rcases List.mem_cons.mp (I2.stkSub b z) with z | z
      · exact g1 z
      · exact g2 z
    · have hp' : p = (D, lobj its n) := by simpa [Cx.comp] using hp
      rw [hp']
      exact (fpD b hb).symm
  have loop : ∀ s3 : Shared, s3 = { s2 with heap := h₁, toks := s2.toks + ([] : List (Str × Value)).length } →
      codeAny (model X.prog X.w) X.A (.compLoop (.ListComp elt [⟨.Name x px, iter, ifs, 0⟩] scope pos) 0 (.ref it) (.ref D) (compEnvC scope (closOf scope X.env) C X.env))
        (compPost (model X.prog X.w) X.A X.xe none (EP X pins σ Q) (.ref D) C) s3 := by
    rintro s3 rfl
    refine codeAny_compLoop_own (fun n s' => ∃ i ys its k H' o', Inv (X.comp scope (x :: fv) C s2 H2 fp) [(D, lobj its k)] (o' :: pick ix σ) H' s' ∧ tn i s'.heap ∧ (∀ b ∈ fp, H' b = none) ∧ Vals ys its ∧ ys.length ≤ sizeLine ∧ W i n ys H') ?_ m0
      ⟨0, [], [], 0, H2, none, I3, st3, fun b hb => (f2 b hb).1, .nil, Nat.zero_le _, w0⟩
    rintro n s4 ⟨i, ys, its, k, H4, o4, I4, st4, fr4, rv4, hz4, w4⟩
    rcases turn i n ys H4 w4 with ⟨stop, q⟩ | ⟨go, hlt, step⟩
    · refine thn (T.done (X.comp scope (x :: fv) C s2 H2 fp) rfl rfl rfl hc i _ s4 _ H4 _ I4 (stat fr4) st4 stop) fun r s5 ⟨hr, I5⟩ => ?_
      subst hr
      obtain ⟨m5, hn5, _⟩ := id I5.loc
      refine ⟨m5, hn5, fun h6 hs6 => ?_⟩
      obtain ⟨I6, nD⟩ := comp_end I2 hD hC f2 I5 hs6 rv4 hz4
      exact ⟨.ref D, _, I6, rfl, q D nD⟩
    · refine thn (T.item (X.comp scope (x :: fv) C s2 H2 fp) rfl rfl rfl hc i _ s4 _ H4 _ I4 (stat fr4) st4 go) fun r s5 ⟨u, hr, h5⟩ => ?_
      subst hr
      refine thn h5 fun _ s6 ⟨xv, H6, I6, r6, y6, st6, fr6⟩ => ?_
      have I6' := I6.pinned (stat fr6) (T.obj _ _ st6)
      refine wpAny_assign_Name (store_ok (i := 0) I6' S.nd rfl (.inl (lookup_relabel_local S.tgt)) r6 (fun s7 I7 => ?_) (.inr (lookup_relabel_local S.tgt)))
      refine thn (ht C s2 H2 fp _ s7 _ H6 _ I7 (step xv H6 y6)) fun b s8 ⟨H8, I8, q8⟩ => ?_
      have keepT : ∀ {H9 : Hp} {σ9 : St} {s9 : Shared} (I9 : Inv (X.comp scope (x :: fv) C s2 H2 fp) ([(D, lobj its k)] ++ pinsAt fp s6.heap) σ9 H9 s9), (∀ b ∈ fp, ∀ o, s6.heap.get? b = some o → s9.heap.get? b = some o ∧ H9 b = none) := fun {H9 σ9 s9} I9 b hb o e =>
        ⟨(I9.pin (b, o) (List.mem_append_right _ (List.mem_append_right _ (mem_pinsAt hb e)))).1, (I9.pin (b, o) (List.mem_append_right _ (List.mem_append_right _ (mem_pinsAt hb e)))).2.1⟩
      cases b with
      | false =>
        rw [if_neg Bool.false_ne_true] at q8 ⊢
        obtain ⟨m', hm, w8⟩ := q8
        refine ⟨m', hm, i + 1, ys, its, k, H8, some xv, I8.unpinned, T.keep _ _ _ st6 fun b hb o e => (keepT I8 b hb o e).1, fun b hb => ?_, rv4, hz4, w8⟩
        obtain ⟨o, e, _⟩ := T.obj _ _ st6 b hb
        exact (keepT I8 b hb o e).2
      | true =>
        rw [if_pos rfl] at q8 ⊢
        refine thn (he C s2 H2 fp _ s8 _ H8 _ I8 q8) fun y s9 ⟨yv, H9, I9, r9, q9⟩ => ?_
        obtain ⟨m', hm, w9⟩ := q9
        obtain ⟨eD, nD, neD, nfD, _⟩ := I9.pin (D, lobj its k) (by simp [Cx.comp])
        have hlen := rv4.length
        refine wpAny_list_append_plain (items := its.toArray) ⟨k, eD⟩ (fun h10 hp10 hs10 => ?_) (by rw [List.size_toArray]; omega)
        obtain ⟨k', e10⟩ := hp10
        have J9 : Inv (X.comp scope (x :: fv) C s2 H2 fp) (pinsAt fp s6.heap) (some xv :: pick ix σ) H9 s9 := I9.pins_of fun p hp => I9.pin p (List.mem_append_right _ (List.mem_append_right _ hp))
        have J10 : Inv (X.comp scope (x :: fv) C s2 H2 fp) (pinsAt fp s6.heap) (some xv :: pick ix σ) H9 { s9 with heap := h10 } :=
          J9.turned (t' := s9.toks) (it := D) (fun b o hb e => (hs10.2 b hb).trans e) nD neD (.inr hD) (fun y c h1 z => by
            obtain ⟨_, o, ho, _⟩ := I2.cell y c (clos_get hcl h1)
            exact nbD c (Heap.lt_size ho) z) (fun p hp z => by
            obtain ⟨hb, _⟩ := of_pinsAt (show p ∈ pinsAt fp s6.heap by simpa [Cx.comp] using hp)
            exact fpD p.1 hb z)
        have e10' : h10.get? D = some (lobj (its ++ [y]) k') := by
          rw [e10]
          simp [lobj]
        refine ⟨m', hm, i + 1, ys ++ [yv], its ++ [y], k', H9, some xv, J10.pins_of fun p hp => ?_, T.keep _ _ _ st6 fun b hb o e => (hs10.2 b (fpD b hb)).trans (keepT I9 b hb o e).1, fun b hb => ?_, rv4.append (.cons r9 .nil), ?_, w9⟩
        · have hp' : p = (D, lobj (its ++ [y]) k') := by simpa using hp
          subst hp'
          exact ⟨e10', nD, neD, nfD, fun v z => by have z' : Data.seq _ _ = Data.cell v := z; cases z'⟩
        · obtain ⟨o, e, _⟩ := T.obj _ _ st6 b hb
          exact (keepT I9 b hb o e).2
        · rw [List.length_append, List.length_singleton]; omega
  exact codeAny_compStart_list (loop _ rfl) (T.self _ 0 _ _ _ st3 (loop _ rfl))
end
section
variable {Q : VK} {ix : List Nat} {tt : TT} {te : TE} {σ : St} {H : Hp}
end
end L2
namespace L2
open PySem PySem.Spec PyProof.Rows
section
variable {X : Cx} {a b : Expr} {ta tb : TE} {pos : Pos}
theorem op_is_bl : OpR X (compareOp .Is) (fun x y H Q => ∃ i j, x = .bl i ∧ y = .bl j ∧ Q (.bl (i == j)) H) := by
  intro pins s σ H x y v u Q I rx ry h
  obtain ⟨i, j, rfl, rfl, q⟩ := h
  cases rx
  cases ry
  exact is_bool ⟨.bl (i == j), H, I, rfl, q⟩
theorem op_isnot_bl : OpR X (compareOp .IsNot) (fun x y H Q => ∃ i j, x = .bl i ∧ y = .bl j ∧ Q (.bl (i != j)) H) := by
  intro pins s σ H x y v u Q I rx ry h
  obtain ⟨i, j, rfl, rfl, q⟩ := h
  cases rx
  cases ry
  exact isnot_bool ⟨.bl (i != j), H, I, rfl, q⟩
theorem op_le_str : OpR X (compareOp .LtE) (fun x y H Q => ∃ i j, x = .str i ∧ y = .str j ∧ Q (.bl (!decide (j.cps.toList < i.cps.toList))) H) := by
  intro pins s σ H x y v u Q I rx ry h
  obtain ⟨i, j, rfl, rfl, q⟩ := h
  obtain ⟨t, rfl⟩ := rx
  obtain ⟨t', rfl⟩ := ry
  exact PySem.P.le_str (fin_bl I q rfl)
theorem op_mul_str : OpR X (binaryOp .Mult) (fun x y H Q => ∃ z n, x = .str z ∧ y = .int n ∧ MulOk z n ∧ Q (.str (Txt.mul z n)) H) := by
  intro pins s σ H x y v u Q I rx ry h
  obtain ⟨z, n, rfl, rfl, hm, q⟩ := h
  obtain ⟨t, rfl⟩ := rx
  obtain ⟨t', rfl⟩ := ry
  exact SB.mul hm fun t' k => ⟨.str (Txt.mul z n), H, I.tok _, ⟨_, rfl⟩, q⟩
def rSlS : V → Option Int → Option Int → Hp → VK → Prop := fun x lo hi H Q => ∃ z, x = .str z ∧ z.length ≤ sizeLine ∧ Q (.str (Txt.slice z lo hi)) H
theorem part_opt {v : Value} {o : Option Int} (p : IsPart v o) : ∃ l : Option (Int × Tok), v = partValue l ∧ l.map (·.1) = o := by
  cases p with
  | none => exact ⟨none, rfl, rfl⟩
  | int i t => exact ⟨some (i, t), rfl, rfl⟩
theorem sl_str : SlR X rSlS := by
  intro pins s σ H x v vl vu lo hi sl Q I rx hs pl pu h
  obtain ⟨z, rfl, hz, q⟩ := h
  obtain ⟨t, rfl⟩ := rx
  obtain ⟨l, rfl, el⟩ := part_opt pl
  obtain ⟨u, rfl, eu⟩ := part_opt pu
  subst el eu
  refine ⟨"str", _, F.slot_str_getitem.lookup, typeIs_str _ _ _, wpAny_getItem_str_slice (l := l) (u := u) (st := none) hs rfl ?_⟩
  exact post_val_or_str ⟨Nat.le_trans (Txt.slice_le z _ _) hz, fun t' k => ⟨.str (Txt.slice z (l.map (·.1)) (u.map (·.1))), H, I.tok _, ⟨_, rfl⟩, q⟩⟩
theorem call_isinst : CallR X (.builtin "isinstance") (fun xs H Q => ∃ x T t b, xs = [x, .ty T] ∧ TyOf X.K H x t ∧ PySem.W.kitOne X.K t (.type T) = some b ∧ Q (.bl b) H) := by
  intro pins s σ H xs us Q I r h
  obtain ⟨x, T, t, b, rfl, ty, hk, q⟩ := h
  obtain ⟨u, w', rfl, ru, rw'⟩ := vals2 r
  cases (show w' = Value.type T from rw')
  exact isinst_ok I ru ty hk fun tk => ⟨.bl b, H, I.tok tk, rfl, q⟩
end
end L2
namespace L2
open PySem PySem.Spec PyProof.Rows
structure Fn (K : PySem.W.Frag) (mg : Str → Option Value) (x : Str) (st : Stmt) (ps : List Str) (f : Addr) (fd : FuncData) : Prop where
  fu : Fun K x x st f fd
  mgx : mg x = some (.ref f)
  bd : Binds K fd ps []
def HasFn (K : PySem.W.Frag) (mg : Str → Option Value) (x : Str) (st : Stmt) (ps : List Str) : Prop := ∃ f fd, Fn K mg x st ps f fd
section
variable {X : Cx} {x : Str} {st : Stmt} {ps : List Str} {f : Addr} {fd : FuncData} {k : Nat} {sp : Sp} {e : Expr} {es : List Expr} {t : TA} {p pos : Pos}
theorem pe_fn (N : Fn X.K X.mg x st ps f fd) (G : FnOk X.prog X.w X.K X.mg X.base CX0 k f fd ps sp) (hr : Room k X.A) (ha : PA X (e :: es) t) (hg : Gl X x := by rfl)
    (hdb : (x == ("__debug__" : Str)) = false := by decide) (he : starEach (e :: es) X.env = (false, eval e X.env) :: starEach es X.env := by rfl) (hpl : (backTo pos (starEach es X.env)).any (·.1) = false := by rfl) :
    PE X (.Call (.Name x p) (e :: es) [] pos) (tCall sp [] E0 t) := pe_call G hr hg N.mgx N.fu.kp N.bd .nil pass0 ha hdb he hpl
theorem pe_gl {v : V} (h : ∃ u, X.mg x = some u ∧ RelV v u) (hg : Gl X x := by rfl) (hd : (x == ("__debug__" : Str)) = false := by decide) : PE X (.Name x pos) (tC v) := by
  obtain ⟨u, h1, h2⟩ := h
  exact pe_glob hg h1 h2 hd
theorem pe_ty {T : String} (hm : X.mg x = none) (hv : bootBuiltins x = some (.type T)) (hg : Gl X x := by rfl) (hn : x ≠ "__name__" := by decide) (hd : (x == ("__debug__" : Str)) = false := by decide) : PE X (.Name x pos) (tC (.ty T)) :=
  pe_bltn hg hm hv rfl hn hd
end
def NotStr (K : PySem.W.Frag) (H : Hp) (v : V) : Prop := ∃ t, TyOf K H v t ∧ PySem.W.kitOne K t (.type "str") = some false
end L2
namespace L2
open PySem PySem.Spec PyProof.Rows
section
variable {κ : Type} [DecidableEq κ]
def valV (kvs : List (κ × V)) (k : κ) : Option V := (kvs.find? fun kv => decide (kv.1 = k)).map (·.2)
def putK (kvs : List (κ × V)) (k : κ) (v : V) : List (κ × V) :=
  if (kvs.any fun kv => decide (kv.1 = k)) = true then kvs.map (fun kv => if kv.1 = k then (kv.1, v) else kv) else kvs ++ [(k, v)]
def dropK (kvs : List (κ × V)) (k : κ) : List (κ × V) := kvs.filter fun kv => decide (kv.1 ≠ k)
theorem valV_pos {p : κ × V} {r : List (κ × V)} {k : κ} (e : p.1 = k) : valV (p :: r) k = some p.2 := by simp [valV, List.find?_cons, e]
theorem valV_neg {p : κ × V} {r : List (κ × V)} {k : κ} (e : ¬ p.1 = k) : valV (p :: r) k = valV r k := by simp [valV, List.find?_cons, e]
theorem valV_any (k : κ) : ∀ kvs : List (κ × V), (kvs.any fun kv => decide (kv.1 = k)) = (valV kvs k).isSome
  | [] => rfl
  | p :: r => by
    rw [List.any_cons]
    by_cases e : p.1 = k
    · simp only [valV_pos e, decide_eq_true e, Bool.true_or, Option.isSome_some]
    · rw [valV_neg e, decide_eq_false e, Bool.false_or]; exact valV_any k r
theorem length_putK (kvs : List (κ × V)) (k : κ) (v : V) : (putK kvs k v).length ≤ kvs.length + 1 := by
  unfold putK
  split
  · rw [List.length_map]; omega
  · rw [List.length_append, List.length_cons, List.length_nil]; omega
theorem putK_new {kvs : List (κ × V)} {k : κ} (v : V) (h : valV kvs k = none) : putK kvs k v = kvs ++ [(k, v)] := by
  unfold putK
  rw [valV_any, h]
  exact if_neg (by decide)
theorem RelO.isSome_eq {o : Option V} {u : Option Value} (r : RelO o u) : o.isSome = u.isSome := by
  cases o with
  | none => cases u with
    | none => rfl
    | some _ => exact (show False from r).elim
  | some _ => cases u with
    | none => exact (show False from r).elim
    | some _ => rfl
theorem RelO.getD {o : Option V} {u : Option Value} {d : V} {d' : Value} (r : RelO o u) (rd : RelV d d') : RelV (o.getD d) (u.getD d') := by
  cases o with
  | none => cases u with
    | none => exact rd
    | some _ => exact (show False from r).elim
  | some _ => cases u with
    | none => exact (show False from r).elim
    | some _ => exact r
theorem KV.val {kvs : List (κ × V)} {vs : List (κ × Value)} (r : KV kvs vs) (k : κ) : RelO (valV kvs k) (valueAt vs k) := by
  unfold KV at r
  induction r with
  | nil => exact True.intro
  | @cons p q ps qs h t ih =>
    obtain ⟨h1, h2⟩ := h
    by_cases e : p.1 = k
    · have e' : q.1 = k := h1.symm.trans e
      have b : valueAt (q :: qs) k = some q.2 := by simp [valueAt, List.find?_cons, e']
      rw [valV_pos e, b]; exact h2
    · have e' : ¬ q.1 = k := fun z => e (h1.trans z)
      have b : valueAt (q :: qs) k = valueAt qs k := by simp [valueAt, List.find?_cons, e']
      rw [valV_neg e, b]; exact ih
theorem KV.any {kvs : List (κ × V)} {vs : List (κ × Value)} (r : KV kvs vs) (k : κ) : (kvs.any fun kv => decide (kv.1 = k)) = vs.any fun kv => decide (kv.1 = k) := by
  unfold KV at r
  induction r with
  | nil => rfl
  | cons h t ih => rw [List.any_cons, List.any_cons, ih, h.1]
theorem KV.repl {kvs : List (κ × V)} {vs : List (κ × Value)} (r : KV kvs vs) (k : κ) {y : V} {u : Value} (ry : RelV y u) :
    KV (kvs.map fun kv => if kv.1 = k then (kv.1, y) else kv) (vs.map fun kv => if kv.1 = k then (kv.1, u) else kv) := by
  unfold KV at r ⊢
  induction r with
  | nil => exact .nil
  | @cons p q ps qs h t ih =>
    rw [List.map_cons, List.map_cons]
    refine .cons ?_ ih
    obtain ⟨h1, h2⟩ := h
    by_cases e : p.1 = k
    · rw [if_pos e, if_pos (h1.symm.trans e)]; exact ⟨h1, ry⟩
    · rw [if_neg e, if_neg (fun z => e (h1.trans z))]; exact ⟨h1, h2⟩
theorem KV.put {kvs : List (κ × V)} {vs : List (κ × Value)} (r : KV kvs vs) (k : κ) {y : V} {u : Value} (ry : RelV y u) : KV (putK kvs k y) (stored vs k u) := by
  unfold putK stored
  rw [r.any k]
  by_cases e : (vs.any fun kv => decide (kv.1 = k)) = true
  · rw [if_pos e, if_pos e]; exact r.repl k ry
  · rw [if_neg e, if_neg e]; exact Paired.snoc r ⟨rfl, ry⟩
theorem KV.drop {kvs : List (κ × V)} {vs : List (κ × Value)} (r : KV kvs vs) (k : κ) : KV (dropK kvs k) (without vs k) := by
  unfold KV at r ⊢
  unfold dropK without
  induction r with
  | nil => exact .nil
  | @cons p q ps qs h t ih =>
    obtain ⟨h1, h2⟩ := h
    rw [List.filter_cons, List.filter_cons]
    by_cases e : p.1 = k
    · have a : ¬ decide (p.1 ≠ k) = true := by simp [e]
      have b : ¬ decide (q.1 ≠ k) = true := by simp [h1.symm.trans e]
      rw [if_neg a, if_neg b]; exact ih
    · have e' : ¬ q.1 = k := fun z => e (h1.trans z)
      have a : decide (p.1 ≠ k) = true := by simp [e]
      have b : decide (q.1 ≠ k) = true := by simp [e']
      rw [if_pos a, if_pos b]; exact .cons ⟨h1, h2⟩ ih
theorem KV.keys {kvs : List (κ × V)} {vs : List (κ × Value)} (r : KV kvs vs) : kvs.map (·.1) = vs.map (·.1) := by
  unfold KV at r
  induction r with
  | nil => rfl
  | cons h t ih => rw [List.map_cons, List.map_cons, ih, h.1]
theorem KV.length {kvs : List (κ × V)} {vs : List (κ × Value)} (r : KV kvs vs) : kvs.length = vs.length := Paired.length r
end
theorem kV_is {P : Program} {w : World} {k : Key} {u : Value} (r : RelV (kV k) u) : (mixKind P w).is k u = true := by
  cases k with
  | inl i => obtain ⟨t, e⟩ := (show ∃ t, u = Value.int i t from r); subst e; exact mixKind_int P w i t
  | inr x => obtain ⟨t, e⟩ := (show ∃ t, u = Value.str x t from r); subst e; exact mixKind_str P w x t
theorem items_are {P : Program} {w : World} : ∀ {ks : List Key} {us : List Value}, Vals (ks.map kV) us → ItemsAre (mixKind P w) ks us
  | [], _, r => by rw [List.map_nil] at r; cases r; exact .nil
  | k :: ks, _, r => by
    rw [List.map_cons] at r
    cases r with
    | cons h t => exact .cons (kV_is h) (items_are t)
abbrev KT (H : Hp) : List (List Key × V) → List (List Key × Addr × Value) → Prop := Paired fun p q => p.1 = q.1 ∧ H q.2.1 = some (.tup (p.1.map kV)) ∧ RelV p.2 q.2.2
theorem KT.val {H : Hp} {kvs : List (List Key × V)} {xs : List (List Key × Addr × Value)} (r : KT H kvs xs) (k : List Key) : RelO (valV kvs k) ((atKey xs k).map (·.2)) := by
  induction r with
  | nil => exact True.intro
  | @cons p q ps qs h t ih =>
    obtain ⟨h1, _, h2⟩ := h
    by_cases e : p.1 = k
    · have e' : q.1 = k := h1.symm.trans e
      have b : atKey (q :: qs) k = some q.2 := by simp [atKey, List.find?_cons, e']
      rw [valV_pos e, b]; exact h2
    · have e' : ¬ q.1 = k := fun z => e (h1.trans z)
      have b : atKey (q :: qs) k = atKey qs k := by simp [atKey, List.find?_cons, e']
      rw [valV_neg e, b]; exact ih
theorem KT.repl {H : Hp} {kvs : List (List Key × V)} {xs : List (List Key × Addr × Value)} (r : KT H kvs xs) (k : List Key) {y : V} {u : Value} (ry : RelV y u) :
    KT H (kvs.map fun kv => if kv.1 = k then (kv.1, y) else kv) (xs.map (putAt k u)) := by
  induction r with
  | nil => exact .nil
  | @cons p q ps qs h t ih =>
    rw [List.map_cons, List.map_cons]
    refine .cons ?_ ih
    obtain ⟨h1, h2, h3⟩ := h
    unfold putAt
    by_cases e : p.1 = k
    · rw [if_pos e, if_pos (h1.symm.trans e)]; exact ⟨h1, h2, ry⟩
    · rw [if_neg e, if_neg (fun z => e (h1.trans z))]; exact ⟨h1, h2, h3⟩
theorem KT.put {H : Hp} {kvs : List (List Key × V)} {xs : List (List Key × Addr × Value)} (r : KT H kvs xs) (k : List Key) {b : Addr} {y : V} {u : Value} (hb : H b = some (.tup (k.map kV))) (ry : RelV y u) :
    KT H (putK kvs k y) (storedH xs k b u) := by
  have e : (kvs.any fun kv => decide (kv.1 = k)) = (atKey xs k).isSome := by
    rw [valV_any, (r.val k).isSome_eq, Option.isSome_map]
  unfold putK storedH
  rw [e]
  by_cases q : (atKey xs k).isSome = true
  · rw [if_pos q, if_pos q]; exact r.repl k ry
  · rw [if_neg q, if_neg q]; exact Paired.snoc r ⟨rfl, hb, ry⟩
theorem KT.keeps {H H' : Hp} {kvs : List (List Key × V)} {xs : List (List Key × Addr × Value)} (r : KT H kvs xs) (ht : ∀ b ys, H b = some (.tup ys) → H' b = some (.tup ys)) : KT H' kvs xs :=
  Paired.mapP r fun _ _ z => ⟨z.1, ht _ _ z.2.1, z.2.2⟩
section
variable {P : Program} {w : World} {H : Hp} {h : Heap} {a : Addr}
theorem rd_of {u : HO} (ok : HOk P w H h) (e : Rd H a u) : ObjOk P w H h a u := e.ok ok
theorem dk_rd {kvs : List (Key × V)} (ok : HOk P w H h) (e : Rd H a (.dK kvs)) : kvs.length ≤ sizeLine ∧ (a == sysModules) = false ∧ ∃ vs, KV kvs vs ∧ h.DictOf (mixKind P w) a vs :=
  show ObjOk P w H h a (.dK kvs) from rd_of ok e
theorem dk_of {kvs : List (Key × V)} (ok : HOk P w H h) (e : H a = some (.dK kvs)) : kvs.length ≤ sizeLine ∧ (a == sysModules) = false ∧ ∃ vs, KV kvs vs ∧ h.DictOf (mixKind P w) a vs := dk_rd ok (.inl e)
theorem key_of {ks : List Key} (ok : HOk P w H h) (e : H a = some (.tup (ks.map kV))) : (tupleKind (mixKind P w)).is h ks a := by
  obtain ⟨_, its, r, o, h1, h2, n, h3⟩ := (show ObjOk P w H h a (.tup (ks.map kV)) from ok a _ e)
  exact ⟨o, its.toArray, n, h1, h2, h3, by simpa using items_are r⟩
theorem dt_rd {kvs : List (List Key × V)} (ok : HOk P w H h) (e : Rd H a (.dT kvs)) : kvs.length ≤ sizeLine ∧ (a == sysModules) = false ∧
    ∃ xs, KT H kvs xs ∧ h.DictOfH (tupleKind (mixKind P w)) a xs := by
  obtain ⟨z, y, xs, r, o, es, ep, h1, h2, h3, h4, h5⟩ := (show ObjOk P w H h a (.dT kvs) from rd_of ok e)
  refine ⟨z, y, xs, r, o, es, ep, h1, h2, h3, h4, fun x hx => ?_, h5⟩
  have all : ∀ {l : List (List Key × V)} {m : List (List Key × Addr × Value)}, KT H l m → ∀ x ∈ m, (tupleKind (mixKind P w)).is h x.1 x.2.1 := by
    intro l m q
    induction q with
    | nil => intro x hx; exact nomatch hx
    | @cons p q ps qs hq t ih =>
      intro x hx
      rcases List.mem_cons.mp hx with e | hx
      · subst e
        exact key_of ok (by rw [← hq.1]; exact hq.2.1)
      · exact ih x hx
  exact all r x hx
theorem dt_of {kvs : List (List Key × V)} (ok : HOk P w H h) (e : H a = some (.dT kvs)) : kvs.length ≤ sizeLine ∧ (a == sysModules) = false ∧
    ∃ xs, KT H kvs xs ∧ h.DictOfH (tupleKind (mixKind P w)) a xs := dt_rd ok (.inl e)
end
def DGet (H : Hp) (a : Addr) (y : V) (r : Option V) : Prop :=
  (∃ kvs k, Rd H a (.dK kvs) ∧ y = kV k ∧ r = valV kvs k) ∨ ∃ kvs k b, Rd H a (.dT kvs) ∧ y = .ref b ∧ H b = some (.tup (k.map kV)) ∧ r = valV kvs k
def DPut (H : Hp) (a : Addr) (y v : V) (H' : Hp) : Prop :=
  (∃ kvs k, H a = some (.dK kvs) ∧ y = kV k ∧ kvs.length < sizeLine ∧ H' = upd H a (.dK (putK kvs k v))) ∨
  ∃ kvs k b, H a = some (.dT kvs) ∧ y = .ref b ∧ H b = some (.tup (k.map kV)) ∧ kvs.length < sizeLine ∧ H' = upd H a (.dT (putK kvs k v))
theorem DGet.k {H : Hp} {a : Addr} {kvs : List (Key × V)} {k : Key} (e : H a = some (.dK kvs)) : DGet H a (kV k) (valV kvs k) := .inl ⟨kvs, k, .inl e, rfl, rfl⟩
theorem DGet.t {H : Hp} {a b : Addr} {kvs : List (List Key × V)} {k : List Key} (e : H a = some (.dT kvs)) (eb : H b = some (.tup (k.map kV))) : DGet H a (.ref b) (valV kvs k) := .inr ⟨kvs, k, b, .inl e, rfl, eb, rfl⟩
theorem DPut.k {H : Hp} {a : Addr} {kvs : List (Key × V)} {k : Key} {v : V} (e : H a = some (.dK kvs)) (hl : kvs.length < sizeLine) : DPut H a (kV k) v (upd H a (.dK (putK kvs k v))) := .inl ⟨kvs, k, e, rfl, hl, rfl⟩
theorem DPut.t {H : Hp} {a b : Addr} {kvs : List (List Key × V)} {k : List Key} {v : V} (e : H a = some (.dT kvs)) (eb : H b = some (.tup (k.map kV))) (hl : kvs.length < sizeLine) :
    DPut H a (.ref b) v (upd H a (.dT (putK kvs k v))) := .inr ⟨kvs, k, b, e, rfl, eb, hl, rfl⟩
section
variable {X : Cx} {pins : List (Addr × Obj)} {σ : St} {H : Hp} {s : Shared} {a : Addr} {y v : V} {u r : Value} {o : Option V} {A : Around} {E : Value → Shared → Prop}
theorem Inv.big (I : Inv X pins σ H s) : sysModules < s.heap.objs.size := by
  have h : mainGlobals < s.heap.objs.size := (I.mod.glob.keeps I.bk).lt
  exact Nat.lt_trans (by decide) h
theorem d_getItem {Q : Value → Shared → Prop} (hu : A.units + 1 < cLine) (I : Inv X pins σ H s) (g : DGet H a y (some v)) (ry : RelV y u) (h : ∀ w' s', Inv X pins σ H s' → RelV v w' → Q w' s') :
    wpAny (model X.prog X.w) A (getItem (.ref a) u) Q E s := by
  rcases g with ⟨kvs, k, e, ey, l⟩ | ⟨kvs, k, b, e, ey, eb, l⟩
  · subst ey
    obtain ⟨z, hd, vs, rel, dd⟩ := dk_rd I.hok e
    obtain ⟨w', hw, rw'⟩ := RelO.some_of (v := v) (o := valueAt vs k) (by rw [l]; exact rel.val k)
    exact wpAny_getItem_of (kV_is ry) dd.mapOf hw (h w' _ (I.tok _) rw')
  · subst ey
    cases (show u = Value.ref b from ry)
    obtain ⟨z, hd, xs, rel, dd⟩ := dt_rd I.hok e
    obtain ⟨w', hw, rw'⟩ := RelO.some_of (v := v) (o := (atKey xs k).map (·.2)) (by rw [l]; exact rel.val k)
    obtain ⟨p, hp, hp2⟩ := Option.map_eq_some_iff.mp hw
    refine wpAny_getItem_heap (tupleKind_room_in1 hu) (key_of I.hok eb) dd hp ?_
    rw [hp2]
    exact h w' _ (I.tok _) rw'
theorem d_notIn {Q : Value → Shared → Prop} (hu : A.units + 1 < cLine) (I : Inv X pins σ H s) (g : DGet H a y o) (ry : RelV y u) (h : ∀ s', Inv X pins σ H s' → Q (.bool (!o.isSome)) s') :
    wpAny (model X.prog X.w) A (compareOp .NotIn u (.ref a)) Q E s := by
  rcases g with ⟨kvs, k, e, ey, l⟩ | ⟨kvs, k, b, e, ey, eb, l⟩
  · subst ey
    obtain ⟨z, hd, vs, rel, dd⟩ := dk_rd I.hok e
    refine wpAny_notIn_of (kV_is ry) hd dd.mapOf ?_
    rw [← (rel.val k).isSome_eq, ← l]
    exact h _ (I.tok _)
  · subst ey
    cases (show u = Value.ref b from ry)
    obtain ⟨z, hd, xs, rel, dd⟩ := dt_rd I.hok e
    refine wpAny_notIn_heap (tupleKind_room_in1 hu) (key_of I.hok eb) hd dd ?_
    have q := (rel.val k).isSome_eq
    rw [Option.isSome_map] at q
    rw [← q, ← l]
    exact h _ (I.tok _)
theorem d_write {h' : Heap} {t' : Nat} {ob : HO} (I : Inv X pins σ H s) (mu : Mut (H a)) (hs : Heap.SameBut a s.heap h') (he : ∃ q, h'.get? a = some q) (new : ObjOk X.prog X.w (upd H a ob) h' a ob) :
    Inv X pins σ (upd H a ob) { s with heap := h', toks := t' } :=
  I.write (x := a) (e := a) mu (.inl rfl) (fun b q hb z => (hs.2 b hb).trans z) he new
theorem dk_new {P : Program} {w : World} {H' : Hp} {h' : Heap} {kvs : List (Key × V)} {vs : List (Key × Value)} (z : kvs.length ≤ sizeLine) (hd : (a == sysModules) = false) (rel : KV kvs vs) (dd : h'.DictOf (mixKind P w) a vs) :
    ObjOk P w H' h' a (.dK kvs) := ⟨z, hd, vs, rel, dd⟩
theorem d_setItem {H' : Hp} {Q : Unit → Shared → Prop} (hu : A.units + 1 < cLine) (I : Inv X pins σ H s) (g : DPut H a y v H') (ry : RelV y u) (rv : RelV v r) (h : ∀ s', Inv X pins σ H' s' → Q () s') :
    wpAny (model X.prog X.w) A (setItem (.ref a) u r) Q E s := by
  rcases g with ⟨kvs, k, e, ey, l, eH⟩ | ⟨kvs, k, b, e, ey, eb, l, eH⟩
  · subst ey eH
    obtain ⟨z, hd, vs, rel, dd⟩ := dk_of I.hok e
    have hz : vs.length ≤ sizeLine := by rw [← rel.length]; exact z
    have hl : (putK kvs k v).length ≤ sizeLine := by have := length_putK kvs k v; omega
    refine wpAny_setItem_pairs (hsz := hz) (kV_is ry) dd fun h' dd' hs => h _ ?_
    have he : ∃ q, h'.get? a = some q := let ⟨q, _, _, hq, _⟩ := dd'; ⟨q, hq⟩
    exact d_write I (by rw [e]; exact True.intro) hs he (dk_new hl hd (rel.put k rv) dd')
  · subst ey eH
    cases (show u = Value.ref b from ry)
    obtain ⟨z, hd, xs, rel, dd⟩ := dt_of I.hok e
    have hz : xs.length ≤ sizeLine := by rw [← Paired.length rel]; exact z
    have hl : (putK kvs k v).length ≤ sizeLine := by have := length_putK kvs k v; omega
    refine wpAny_setItem_heap (hsz := hz) (tupleKind_room_in1 hu) (key_of I.hok eb) dd fun h' dd' hs => h _ ?_
    obtain ⟨q, es, ep, hq, h2, h3, h4, _, h5⟩ := dd'
    refine d_write I (by rw [e]; exact True.intro) hs ⟨q, hq⟩ ⟨hl, hd, _, (rel.put k eb rv).keeps fun c ys ec => ?_, q, es, ep, hq, h2, h3, h4, h5⟩
    rw [upd_ne (ne_of ec e (fun z => nomatch z))]
    exact ec
end
section
variable {X : Cx} {pins : List (Addr × Obj)} {σ : St} {H : Hp} {s : Shared} {a : Addr} {kvs : List (Key × V)} {k : Key} {u : Value} {A : Around} {E : Value → Shared → Prop}
end
def NoSl (i : Expr) : Prop := ∀ ov iv, subscripted i false ov iv = operate [ov, iv] (getItem ov iv)
theorem subD_of {prog : Program} {w : World} {A : Around} {E : Value → Shared → Prop} {s : Shared} {env : Env} {value slice : Expr} {pos : Pos} {T id : String} {Q : Value → Shared → Prop}
    (hl : typeLookup (.type T) "__getitem__" = pure (some (.builtin id))) (hs : NoSl slice)
    (h : wpAny (model prog w) A (eval value env) (fun o s₁ => wpAny (model prog w) A (eval slice env) (fun i s₂ => s₂.TypeIs o T ∧ wpAny (model prog w) A (getItem o i) Q E s₂) E s₁) E s) :
    wpAny (model prog w) A (eval (.Subscript value slice pos) env) Q E s := by
  refine Subscript_ (wpAny_mono h (fun o s₁ h₁ => wpAny_mono h₁ (fun i s₂ h₂ => ?_) fun _ _ x => x) fun _ _ x => x)
  obtain ⟨hT, h₂⟩ := h₂
  unfold subscriptTail
  refine wpAny_bind ?_
  rw [getitemInPython_of_ne hT.not_modules]
  refine wpAny_bind (wpAny_specialOf hT hl ?_)
  have fin : wpAny (model prog w) A (subscripted slice false o i) (fun r s₃ => wpAny (model prog w) A (letTemporaryGo value o r >>= fun _ => pure r) Q E s₃) E s₂ := by
    rw [hs o i]
    exact wpAny_operating (wpAny_mono h₂ (fun r s₃ h₃ => wpAny_bind (wpAny_letTemporaryGo (wpAny_pure h₃))) fun _ _ x => x)
  first
    | exact wpAny_pure (wpAny_bind fin)
    | exact wpAny_bind (wpAny_pure (wpAny_bind fin))
    | exact wpAny_bind fin
theorem dict_typeIs {X : Cx} {pins : List (Addr × Obj)} {σ : St} {H : Hp} {s : Shared} {a : Addr} {y : V} {o : Option V} (I : Inv X pins σ H s) (g : DGet H a y o) : s.TypeIs (.ref a) "dict" := by
  rcases g with ⟨kvs, k, e, _, _⟩ | ⟨kvs, k, b, e, _, _, _⟩
  · obtain ⟨_, _, vs, _, dd⟩ := dk_rd I.hok e
    exact dd.typeIs
  · obtain ⟨_, _, xs, _, dd⟩ := dt_rd I.hok e
    exact dd.typeIs
def tDGet (td ty : TE) : TE := fun σ H Q => td σ H fun x H1 => ty σ H1 fun y H2 => ∃ a v, x = .ref a ∧ DGet H2 a y (some v) ∧ Q v H2
def sDPut (td ty tv : TE) : TS := fun D σ H => tv σ H fun v H1 => td σ H1 fun x H2 => ty σ H2 fun y H3 => ∃ a H4, x = .ref a ∧ DPut H3 a y v H4 ∧ D.nx σ H4
section
variable {X : Cx} {o i e value : Expr} {pos pos' tpos : Pos} {td ty tv : TE}
theorem pe_dget (hu : X.A.units + 1 < cLine) (ho : PE X o td) (hi : PE X i ty) (hs : NoSl i) : PE X (.Subscript o i pos) (tDGet td ty) := by
  intro pins s σ H Q I h
  refine subD_of PySem.F.slot_dict_getitem.lookup hs (thn (ho pins s σ H _ I h) fun u s1 ⟨x, H1, I1, rx, q1⟩ => thn (hi pins s1 σ H1 _ I1 q1) fun iv s2 ⟨y, H2, I2, ry, a, v, ex, g, q2⟩ => ?_)
  subst ex
  obtain rfl : u = Value.ref a := rx
  exact ⟨dict_typeIs I2 g, d_getItem hu I2 g ry fun w' s3 I3 rw' => ⟨v, H2, I3, rw', q2⟩⟩
theorem ps_dput (hu : X.A.units + 1 < cLine) (ho : PE X o td) (hi : PE X i ty) (hv : PE X value tv) (hs : swapsWith value (some (.Subscript o i pos')) pos.line X.env = pure false) :
    PS X (.Assign [.Subscript o i pos'] value pos) (sDPut td ty tv) := by
  intro pins s σ H D I h
  refine wpAny_Assign_Subscript (thn (hv pins s σ H _ I h) fun r s1 ⟨v, H1, I1, rv, q1⟩ => thn (ho pins s1 σ H1 _ I1 q1) fun u s2 ⟨x, H2, I2, rx, q2⟩ => thn (hi pins s2 σ H2 _ I2 q2) fun iv s3 ⟨y, H3, I3, ry, a, H4, ex, g, q3⟩ => ?_) hs
  subst ex
  obtain rfl : u = Value.ref a := rx
  exact d_setItem hu I3 g ry rv fun s4 I4 => ⟨σ, H4, I4, q3⟩
end
theorem dk_empty {P : Program} {w : World} {H : Hp} (h : Heap) (hb : sysModules < h.objs.size) : ObjOk P w H (h.push { cls := .type "dict", data := .dict #[] }) h.objs.size (.dK []) :=
  ⟨Nat.zero_le _, beq_eq_false_iff_ne.mpr (Ne.symm (Nat.ne_of_lt hb)), [], .nil, Heap.DictOf.new h⟩
def tDNewK : TE := fun _ H Q => ∀ p, H p = none → Q (.ref p) (upd H p (.dK []))
section
variable {X : Cx} {pos : Pos}
theorem pe_dnewK : PE X (.Dict [] [] pos) tDNewK := fun pins s σ H Q I h =>
  wpAny_Dict_empty ⟨.ref s.heap.objs.size, _, I.laid (a := s.heap.objs.size) (o := .dK []) (t' := s.toks) (fun _ _ q => Heap.get?_push_of_some _ q) (Nat.le_refl _) (dk_empty s.heap I.big), rfl, h _ (I.hok.fresh (Nat.le_refl _))⟩
end
def mergeK (kvs more : List (Key × V)) : List (Key × V) := more.foldl (fun acc kv => putK acc kv.1 kv.2) kvs
theorem KV.merge : ∀ {more : List (Key × V)} {rs : List (Key × Value)} {kvs : List (Key × V)} {vs : List (Key × Value)}, KV more rs → KV kvs vs → KV (mergeK kvs more) (merged vs rs) := by
  intro more rs kvs vs r
  unfold KV at r
  induction r generalizing kvs vs with
  | nil => intro q; exact q
  | @cons p q ps qs h t ih =>
    intro r0
    have e : KV (putK kvs p.1 p.2) (stored vs q.1 q.2) := by
      have := r0.put p.1 h.2
      rw [← h.1]; exact this
    exact ih e
structure M1 (X : Cx) (o : Expr) (m : Str) (apos : Pos) (e : Expr) (cpos : Pos) : Prop where
  base : attributeBase o m X.env (eval o X.env) = eval o X.env
  few : ((backTo cpos (starEach [e] X.env)).all (fun x => !x.1) && (backToKw cpos (keywordEach [] X.env)).all (fun x => x.1.isSome)
    && decide (([e] : List Expr).length + ([] : List Keyword).length + (if ([] : List Keyword).isEmpty then 0 else 1) < 30)) = true
  line : (apos.endLine == cpos.line) = true
  trees : backTo cpos (starEach [e] X.env) = [(false, eval e X.env)]
structure M2 (X : Cx) (o : Expr) (m : Str) (apos : Pos) (e f : Expr) (cpos : Pos) : Prop where
  base : attributeBase o m X.env (eval o X.env) = eval o X.env
  few : ((backTo cpos (starEach [e, f] X.env)).all (fun x => !x.1) && (backToKw cpos (keywordEach [] X.env)).all (fun x => x.1.isSome)
    && decide (([e, f] : List Expr).length + ([] : List Keyword).length + (if ([] : List Keyword).isEmpty then 0 else 1) < 30)) = true
  line : (apos.endLine == cpos.line) = true
  trees : backTo cpos (starEach [e, f] X.env) = [(false, eval e X.env), (false, eval f X.env)]
section
variable {X : Cx} {pins : List (Addr × Obj)} {σ : St} {H : Hp} {s : Shared} {a : Addr} {y d : V} {u r : Value} {o : Option V} {A : Around} {E : Value → Shared → Prop}
end
section
variable {X : Cx} {o e f : Expr} {apos cpos : Pos} {td ty tx : TE}
end
section
variable {X : Cx} {pins : List (Addr × Obj)} {σ : St} {H : Hp} {s : Shared} {a : Addr} {kvs : List (Key × V)} {A : Around} {E : Value → Shared → Prop}
end
section
variable {X : Cx} {pins : List (Addr × Obj)} {σ : St} {H : Hp} {s : Shared} {a : Addr} {y : V} {u : Value} {A : Around} {E : Value → Shared → Prop}
end
end L2
namespace L2
open PySem PySem.Spec PyProof.Rows PySem.SeqAt
section
variable {X : Cx}
inductive NoNum (H : Hp) : V → Prop where
  | non : NoNum H .non
  | str (x : Str) : NoNum H (.str x)
  | lst {a : Addr} {xs : List V} (e : H a = some (.lst xs)) : NoNum H (.ref a)
  | tup {a : Addr} {xs : List V} (e : H a = some (.tup xs)) : NoNum H (.ref a)
  | dK {a : Addr} {kvs : List (Key × V)} (e : H a = some (.dK kvs)) : NoNum H (.ref a)
end
end L2
namespace L2
open PySem PySem.Spec PyProof.Rows
def isStar : Expr → Bool
  | .Starred .. => true
  | _ => false
theorem star_cons {e : Expr} {es : List Expr} {env : Env} (h : isStar e = false) : starEach (e :: es) env = (false, eval e env) :: starEach es env := by
  cases e <;> first
    | rfl
    | (have h' : true = false := h; cases h')
def noStar : List Expr → Bool
  | [] => true
  | e :: es => !isStar e && noStar es
theorem star_any {pos : Pos} {env : Env} : ∀ {es : List Expr}, noStar es = true → (backTo pos (starEach es env)).any (·.1) = false
  | [], _ => rfl
  | e :: es, h => by
    have h' : (!isStar e && noStar es) = true := h
    rw [Bool.and_eq_true] at h'
    have h1 : isStar e = false := by simpa using h'.1
    rw [star_cons h1]
    show (false || (backTo pos (starEach es env)).any (·.1)) = false
    rw [star_any h'.2]
    rfl
section
variable {X : Cx} {x : Str} {st : Stmt} {ps : List Str} {f : Addr} {fd : FuncData} {k : Nat} {sp : Sp} {e : Expr} {es : List Expr} {t : TA} {te : TE} {p pos : Pos} {id T : String} {r : List V → Hp → VK → Prop}
theorem pa_c (ha : PE X e te) (hr : PA X es t) (h : isStar e = false := by rfl) : PA X (e :: es) (tCons te t) := pa_cons ha hr (star_cons h)
theorem pe_f (N : Fn X.K X.mg x st ps f fd) (G : FnOk X.prog X.w X.K X.mg X.base CX0 k f fd ps sp) (hr : Room k X.A) (ha : PA X (e :: es) t) (hg : Gl X x := by rfl) (hdb : (x == ("__debug__" : Str)) = false := by decide) (h1 : isStar e = false := by rfl) (h2 : noStar es = true := by rfl) :
    PE X (.Call (.Name x p) (e :: es) [] pos) (tCall sp [] E0 t) := pe_fn N G hr ha hg hdb (star_cons h1) (star_any h2)
theorem pe_b (hc : CallR X (.builtin id) r) (hm : X.mg x = none) (hv : bootBuiltins x = some (.builtin id)) (ha : PA X (e :: es) t) (hg : Gl X x := by rfl) (hn : x ≠ "__name__" := by decide) (hdb : (x == ("__debug__" : Str)) = false := by decide) (h1 : isStar e = false := by rfl) (h2 : noStar es = true := by rfl) :
    PE X (.Call (.Name x p) (e :: es) [] pos) (tCB r t) := pe_callB hc hg hm hv ha hn hdb (star_cons h1) (star_any h2)
theorem pe_t (hc : CallR X (.type T) r) (hm : X.mg x = none) (hv : bootBuiltins x = some (.type T)) (ha : PA X (e :: es) t) (hg : Gl X x := by rfl) (hn : x ≠ "__name__" := by decide) (hdb : (x == ("__debug__" : Str)) = false := by decide) (h1 : isStar e = false := by rfl) (h2 : noStar es = true := by rfl) :
    PE X (.Call (.Name x p) (e :: es) [] pos) (tCB r t) := pe_callTy hc hg hm hv ha hn hdb (star_cons h1) (star_any h2)
theorem pi_r1 {tg a : Expr} {ta : TA} (hm : X.mg "range" = none) (ha : PA X [a] ta) (hg : Gl X "range" := by rfl) (h1 : isStar a = false := by rfl) : PI X tg (.Call (.Name "range" p) [a] [] pos) (iRng1 ta) := pi_range1 hg hm ha (by rw [star_cons h1]; rfl)
end
end L2
namespace L2
open PySem PySem.Spec PyProof.Rows
theorem len_list (z : Str) : z.length = z.cps.toList.length := by simp [Str.length]
theorem app_list (x y : Str) : (x ++ y).cps.toList = x.cps.toList ++ y.cps.toList := by
  show (x.cps ++ y.cps).toList = _
  simp
theorem atI_get' {α : Type} [Inhabited α] {xs : List α} {i : Int} (h0 : 0 ≤ i) (h1 : i < xs.length) : ∃ c, atI xs i = some c ∧ c ∈ xs := by
  obtain ⟨j, rfl⟩ : ∃ j : Nat, i = j := ⟨i.toNat, by omega⟩
  have hj : j < xs.length := by omega
  exact ⟨xs[j], atI_nat (List.getElem?_eq_getElem hj), List.getElem_mem hj⟩
end L2
namespace L2
open PySem PySem.Spec PyProof.Rows
end L2
namespace L2
open PySem PySem.Spec PyProof.Rows
section
variable {K : PySem.W.Frag}
theorem TyOf.same {H H' : Hp} {v : V} {t : Value} (ty : TyOf K H v t) (s : Same H H') : TyOf K H' v t := by
  cases ty with
  | non => exact .non
  | bl x => exact .bl x
  | int i => exact .int i
  | str x => exact .str x
  | flt x => exact .flt x
  | lst e => exact .lst (s _ _ e)
  | frz e => exact .frz (s _ _ e)
  | tup e => exact .tup (s _ _ e)
  | dK e => exact .dK (s _ _ e)
  | dT e => exact .dT (s _ _ e)
  | ins e cl ha hn htk hm => exact .ins (s _ _ e) cl ha hn htk hm
theorem NotStr.same {H H' : Hp} {v : V} (h : NotStr K H v) (s : Same H H') : NotStr K H' v := by
  obtain ⟨t, ty, k⟩ := h
  exact ⟨t, ty.same s, k⟩
theorem NoNum.same {H H' : Hp} {v : V} (h : NoNum H v) (s : Same H H') : NoNum H' v := by
  cases h with
  | non => exact .non
  | str x => exact .str x
  | lst e => exact .lst (s _ _ e)
  | tup e => exact .tup (s _ _ e)
  | dK e => exact .dK (s _ _ e)
end
end L2
namespace L2
open PySem PySem.Spec PyProof.Rows
section
variable {X : Cx}
def rAddP (K : PySem.W.Frag) : R2 := fun x y H Q => rI0 (fun i j => .int (i + j)) x y H Q ∨ (∃ i j, x = .str i ∧ y = .str j ∧ i.length + j.length ≤ sizeLine ∧ Q (.str (i ++ j)) H) ∨ rCat x y H Q ∨ rCatT K x y H Q
theorem o_add : OpR X (binaryOp .Add) (rAddP X.K) := op_add.or (op_add_str.or (op_cat.or op_catT))
def rMulP : R2 := fun x y H Q => rI CMul (fun i j => .int (i * j)) x y H Q ∨ (∃ z n, x = .str z ∧ y = .int n ∧ MulOk z n ∧ Q (.str (Txt.mul z n)) H) ∨ rRep x y H Q
theorem o_mul : OpR X (binaryOp .Mult) rMulP := op_mul.or (op_mul_str.or op_rep)
def rLtP : R2 := fun x y H Q => rI0 (fun i j => .bl (decide (i < j))) x y H Q ∨ (∃ i j, x = .str i ∧ y = .str j ∧ Q (.bl (decide (i.cps.toList < j.cps.toList))) H)
theorem o_lt : OpR X (compareOp .Lt) rLtP := op_lt.or op_lt_str
def rLeP : R2 := fun x y H Q => rI0 (fun i j => .bl (decide (i ≤ j))) x y H Q ∨ (∃ i j, x = .str i ∧ y = .str j ∧ Q (.bl (!decide (j.cps.toList < i.cps.toList))) H)
theorem o_le : OpR X (compareOp .LtE) rLeP := op_le.or op_le_str
def rSlP (K : PySem.W.Frag) : V → Option Int → Option Int → Hp → VK → Prop := fun x lo hi H Q => rSlS x lo hi H Q ∨ rSlL K x lo hi H Q ∨ rSlT K x lo hi H Q
theorem s_any : SlR X (rSlP X.K) := sl_str.or (sl_list.or sl_tup)
end
section
variable {X : Cx} {K : PySem.W.Frag} {σ : St} {H : Hp} {D : Ends} {Q : VK} {E : XK}
theorem rd_mod {i j : Int} (hc : 0 < j) (h : Q (.int (i % j)) H) : rI (fun _ j => 0 < j) (fun i j => .int (i % j)) (.int i) (.int j) H Q := ⟨i, j, rfl, rfl, hc, h⟩
theorem rd_fdiv {i j : Int} (hc : 0 < j ∧ j < 1073741824) (h : Q (.int (i / j)) H) : rI CDiv (fun i j => .int (i / j)) (.int i) (.int j) H Q := ⟨i, j, rfl, rfl, hc, h⟩
theorem rd_pow {i j : Int} (hc : 0 ≤ j ∧ j ≤ 1000000 ∧ i.natAbs < 2 ^ 64) (h : Q (.int (i ^ j.toNat)) H) : rI CPow (fun i j => .int (i ^ j.toNat)) (.int i) (.int j) H Q := ⟨i, j, rfl, rfl, hc, h⟩
theorem rd_addI {i j : Int} (h : Q (.int (i + j)) H) : rAddP K (.int i) (.int j) H Q := .inl ⟨i, j, rfl, rfl, h⟩
theorem rd_addS {i j : Str} (hz : i.length + j.length ≤ sizeLine) (h : Q (.str (i ++ j)) H) : rAddP K (.str i) (.str j) H Q := .inr (.inl ⟨i, j, rfl, rfl, hz, h⟩)
theorem same_new {p : Addr} {o : HO} (h : H p = none) : Same H (upd H p o) := fun b u e => by rw [upd_ne (ne_of_none e h)]; exact e
theorem rd_addL {l b : Addr} {xs ys : List V} (h1 : H l = some (.lst xs)) (h2 : H b = some (.lst ys)) (hz : xs.length + ys.length ≤ sizeLine) (h : ∀ p H1, H p = none → Same H H1 → H1 p = some (.lst (xs ++ ys)) → Q (.ref p) H1) : rAddP K (.ref l) (.ref b) H Q :=
  .inr (.inr (.inl ⟨l, b, xs, ys, rfl, rfl, h1, h2, hz, fun p hp => h p _ hp (same_new hp) upd_same⟩))
theorem rd_mulI {i j : Int} (hc : CMul i j) (h : Q (.int (i * j)) H) : rMulP (.int i) (.int j) H Q := .inl ⟨i, j, rfl, rfl, hc, h⟩
theorem rd_ltI {i j : Int} (h : Q (.bl (decide (i < j))) H) : rLtP (.int i) (.int j) H Q := .inl ⟨i, j, rfl, rfl, h⟩
theorem rd_ltS {i j : Str} (h : Q (.bl (decide (i.cps.toList < j.cps.toList))) H) : rLtP (.str i) (.str j) H Q := .inr ⟨i, j, rfl, rfl, h⟩
theorem rd_leI {i j : Int} (h : Q (.bl (decide (i ≤ j))) H) : rLeP (.int i) (.int j) H Q := .inl ⟨i, j, rfl, rfl, h⟩
theorem rd_leS {i j : Str} (h : Q (.bl (!decide (j.cps.toList < i.cps.toList))) H) : rLeP (.str i) (.str j) H Q := .inr ⟨i, j, rfl, rfl, h⟩
end
end L2
namespace L2
open PySem PySem.Spec PyProof.Rows PySem.SeqAt
inductive D where
  | non | bl (b : Bool) | int (i : Int) | str (x : Str) | lst (xs : List D) | tup (xs : List D) | dct
mutual
def Rep (H : Hp) : D → V → Prop
  | .non, v => v = .non
  | .bl b, v => v = .bl b
  | .int i, v => v = .int i
  | .str x, v => v = .str x
  | .lst ds, v => ∃ a vs, v = .ref a ∧ H a = some (.lst vs) ∧ Reps H ds vs
  | .tup ds, v => ∃ a vs, v = .ref a ∧ H a = some (.tup vs) ∧ Reps H ds vs
  | .dct, v => ∃ a kvs, v = .ref a ∧ H a = some (.dK kvs)
def Reps (H : Hp) : List D → List V → Prop
  | [], vs => vs = []
  | d :: ds, vs => ∃ v r, vs = v :: r ∧ Rep H d v ∧ Reps H ds r
end
mutual
def pyEq : D → D → Bool
  | .non, .non => true
  | .bl a, .bl b => a == b
  | .bl a, .int i => (if a then 1 else 0) == i
  | .int i, .bl a => i == (if a then 1 else 0)
  | .int i, .int j => i == j
  | .str x, .str y => x == y
  | .lst xs, .lst ys => pyEqs xs ys
  | .tup xs, .tup ys => pyEqs xs ys
  | .dct, .dct => true
  | _, _ => false
def pyEqs : List D → List D → Bool
  | [], [] => true
  | x :: xs, y :: ys => pyEq x y && pyEqs xs ys
  | _, _ => false
end
mutual
def D.dep : D → Nat
  | .lst ds => D.deps ds + 1
  | .tup ds => D.deps ds + 1
  | .dct => 1000
  | _ => 0
def D.deps : List D → Nat
  | [] => 0
  | d :: ds => max (D.dep d) (D.deps ds)
end
theorem Reps.length {H : Hp} : ∀ {ds : List D} {vs : List V}, Reps H ds vs → ds.length = vs.length
  | [], vs, h => by simp only [Reps] at h; subst h; rfl
  | d :: ds, vs, h => by
    simp only [Reps] at h
    obtain ⟨v, r, rfl, _, h⟩ := h
    rw [List.length_cons, List.length_cons, Reps.length h]
mutual
theorem Rep.same {H H' : Hp} (s : Same H H') : ∀ {d : D} {v : V}, Rep H d v → Rep H' d v
  | .non, v, h => by simp only [Rep] at h ⊢; exact h
  | .bl b, v, h => by simp only [Rep] at h ⊢; exact h
  | .int b, v, h => by simp only [Rep] at h ⊢; exact h
  | .str b, v, h => by simp only [Rep] at h ⊢; exact h
  | .lst ds, v, h => by simp only [Rep] at h ⊢; obtain ⟨a, vs, e, h1, h2⟩ := h; exact ⟨a, vs, e, s _ _ h1, Reps.same s h2⟩
  | .tup ds, v, h => by simp only [Rep] at h ⊢; obtain ⟨a, vs, e, h1, h2⟩ := h; exact ⟨a, vs, e, s _ _ h1, Reps.same s h2⟩
  | .dct, v, h => by simp only [Rep] at h ⊢; obtain ⟨a, vs, e, h1⟩ := h; exact ⟨a, vs, e, s _ _ h1⟩
theorem Reps.same {H H' : Hp} (s : Same H H') : ∀ {ds : List D} {vs : List V}, Reps H ds vs → Reps H' ds vs
  | [], vs, h => by simp only [Reps] at h ⊢; exact h
  | d :: ds, vs, h => by simp only [Reps] at h ⊢; obtain ⟨v, r, e, h1, h2⟩ := h; exact ⟨v, r, e, Rep.same s h1, Reps.same s h2⟩
end
mutual
theorem pyEq_refl : ∀ d : D, pyEq d d = true
  | .non => by simp [pyEq]
  | .bl b => by simp [pyEq]
  | .int b => by simp [pyEq]
  | .str b => by simp [pyEq]
  | .lst ds => by simp only [pyEq]; exact pyEqs_refl ds
  | .tup ds => by simp only [pyEq]; exact pyEqs_refl ds
  | .dct => by simp only [pyEq]
theorem pyEqs_refl : ∀ ds : List D, pyEqs ds ds = true
  | [] => by simp [pyEqs]
  | d :: ds => by simp only [pyEqs]; rw [pyEq_refl d, pyEqs_refl ds]; rfl
end
mutual
theorem Rep.inj {H : Hp} : ∀ {d e : D} {v : V}, Rep H d v → Rep H e v → d = e
  | .non, e, v, h, h' => by simp only [Rep] at h; subst h; cases e <;> simp only [Rep] at h' <;> first | rfl | (cases h'; done) | (obtain ⟨_, _, z, _⟩ := h'; cases z)
  | .bl b, e, v, h, h' => by simp only [Rep] at h; subst h; cases e <;> simp only [Rep] at h' <;> first | (cases h'; rfl) | (cases h'; done) | (obtain ⟨_, _, z, _⟩ := h'; cases z)
  | .int b, e, v, h, h' => by simp only [Rep] at h; subst h; cases e <;> simp only [Rep] at h' <;> first | (cases h'; rfl) | (cases h'; done) | (obtain ⟨_, _, z, _⟩ := h'; cases z)
  | .str b, e, v, h, h' => by simp only [Rep] at h; subst h; cases e <;> simp only [Rep] at h' <;> first | (cases h'; rfl) | (cases h'; done) | (obtain ⟨_, _, z, _⟩ := h'; cases z)
  | .lst ds, e, v, h, h' => by
    simp only [Rep] at h
    obtain ⟨a, vs, rfl, h1, h2⟩ := h
    cases e <;> simp only [Rep] at h' <;> first | (cases h'; done) | skip
    · obtain ⟨a', vs', z, h1', h2'⟩ := h'
      cases z
      rw [h1] at h1'
      cases h1'
      rw [Reps.inj h2 h2']
    · obtain ⟨a', vs', z, h1', h2'⟩ := h'
      cases z
      rw [h1] at h1'
      cases h1'
    · obtain ⟨a', vs', z, h1'⟩ := h'
      cases z
      rw [h1] at h1'
      cases h1'
  | .tup ds, e, v, h, h' => by
    simp only [Rep] at h
    obtain ⟨a, vs, rfl, h1, h2⟩ := h
    cases e <;> simp only [Rep] at h' <;> first | (cases h'; done) | skip
    · obtain ⟨a', vs', z, h1', h2'⟩ := h'
      cases z
      rw [h1] at h1'
      cases h1'
    · obtain ⟨a', vs', z, h1', h2'⟩ := h'
      cases z
      rw [h1] at h1'
      cases h1'
      rw [Reps.inj h2 h2']
    · obtain ⟨a', vs', z, h1'⟩ := h'
      cases z
      rw [h1] at h1'
      cases h1'
  | .dct, e, v, h, h' => by
    simp only [Rep] at h
    obtain ⟨a, vs, rfl, h1⟩ := h
    cases e <;> simp only [Rep] at h' <;> first | rfl | (cases h'; done) | skip
    · obtain ⟨a', vs', z, h1', h2'⟩ := h'
      cases z
      rw [h1] at h1'
      cases h1'
    · obtain ⟨a', vs', z, h1', h2'⟩ := h'
      cases z
      rw [h1] at h1'
      cases h1'
theorem Reps.inj {H : Hp} : ∀ {ds es : List D} {vs : List V}, Reps H ds vs → Reps H es vs → ds = es
  | [], es, vs, h, h' => by
    simp only [Reps] at h
    subst h
    cases es with
    | nil => rfl
    | cons e es => simp only [Reps] at h'; obtain ⟨_, _, z, _⟩ := h'; cases z
  | d :: ds, es, vs, h, h' => by
    simp only [Reps] at h
    obtain ⟨v, r, rfl, h1, h2⟩ := h
    cases es with
    | nil => simp only [Reps] at h'; cases h'
    | cons e es =>
      simp only [Reps] at h'
      obtain ⟨_, _, z, h1', h2'⟩ := h'
      cases z
      rw [Rep.inj h1 h1', Reps.inj h2 h2']
end
end L2
namespace L2
open PySem PySem.Spec PyProof.Rows PySem.SeqAt
theorem eqAt_of_rc {A : Around} {s : Shared} {v u : Value} {b : Bool} (hf : ∀ c t, v ≠ .float c t) (hs : v = u → b = true) (h : RcAt A s v u b) : EqAt A s v u b := fun prog w E Q hq => by
  unfold eqBool
  refine wpAny_holding ?_
  refine wpAny_ite_split (fun hab => ?_) (fun _ => ?_)
  · rw [hs (eq_of_beq hab)] at hq
    exact wpAny_bind (wpAny_rule (wpAny_pure hq))
  · cases v <;> first
      | exact absurd rfl (hf _ _)
      | exact wpAny_bind (h prog w E _ (wpAny_truthy_bool hq))
theorem Rep.noflt {H : Hp} {d : D} {x : V} {v : Value} (h : Rep H d x) (r : RelV x v) : ∀ c t, v ≠ .float c t := fun c t z => by
  subst z
  cases d <;> simp only [Rep] at h
  · subst h; cases (show Value.float c t = Value.none from r)
  · subst h; cases (show Value.float c t = Value.bool _ from r)
  · subst h; obtain ⟨_, z⟩ := r; cases z
  · subst h; obtain ⟨_, z⟩ := r; cases z
  · obtain ⟨a, _, rfl, _⟩ := h; cases (show Value.float c t = Value.ref a from r)
  · obtain ⟨a, _, rfl, _⟩ := h; cases (show Value.float c t = Value.ref a from r)
  · obtain ⟨a, _, rfl, _⟩ := h; cases (show Value.float c t = Value.ref a from r)
def eqIx (ds es : List D) (j : Nat) : Bool := pyEq (ds.getD j .non) (es.getD j .non)
theorem pyEqs_range : ∀ {ds es : List D}, ds.length = es.length → (List.range ds.length).all (eqIx ds es) = pyEqs ds es
  | [], [], _ => by simp [pyEqs]
  | [], _ :: _, h => by simp at h
  | _ :: _, [], h => by simp at h
  | d :: ds, e :: es, h => by
    rw [List.length_cons, List.range_succ_eq_map, List.all_cons, List.all_map]
    have ih := pyEqs_range (ds := ds) (es := es) (by simpa using h)
    simp only [pyEqs]
    rw [← ih]
    rfl
theorem pyEqs_len : ∀ {ds es : List D}, ds.length ≠ es.length → pyEqs ds es = false
  | [], [], h => by simp at h
  | [], _ :: _, _ => by simp [pyEqs]
  | _ :: _, [], _ => by simp [pyEqs]
  | d :: ds, e :: es, h => by
    simp only [pyEqs]
    rw [pyEqs_len (ds := ds) (es := es) (by simpa using h), Bool.and_false]
theorem Reps.get {H : Hp} : ∀ {ds : List D} {vs : List V} {j : Nat}, Reps H ds vs → j < ds.length → ∃ v, vs[j]? = some v ∧ Rep H (ds.getD j .non) v
  | [], _, _, _, h => by simp at h
  | d :: ds, vs, j, h, hj => by
    simp only [Reps] at h
    obtain ⟨v, r, rfl, h1, h2⟩ := h
    cases j with
    | zero => exact ⟨v, rfl, h1⟩
    | succ j =>
      obtain ⟨w, e, h3⟩ := Reps.get h2 (show j < ds.length by simpa using hj)
      exact ⟨w, by simpa using e, h3⟩
theorem D.dep_get : ∀ (ds : List D) (j : Nat), (ds.getD j .non).dep ≤ D.deps ds
  | [], j => by simp [D.dep, D.deps]
  | d :: ds, 0 => by simp only [D.deps, List.getD_cons_zero]; omega
  | d :: ds, j + 1 => by
    have := D.dep_get ds j
    simp only [D.deps, List.getD_cons_succ]
    omega
theorem len_min_all {n m : Nat} {e : Nat → Bool} {ds es : List D} (hn : n = ds.length) (hm : m = es.length) (he : e = eqIx ds es) : ((List.range (min n m)).all e && n == m) = pyEqs ds es := by
  subst hn hm he
  by_cases h : ds.length = es.length
  · rw [h, Nat.min_self, ← h, pyEqs_range h]
    simp
  · rw [pyEqs_len h, beq_eq_false_iff_ne.mpr h, Bool.and_false]
theorem rep_rc {P : Program} {w : World} : ∀ (n : Nat) {A : Around} {s : Shared} {H : Hp} {d e : D} {x y : V} {v u : Value}, HOk P w H s.heap → d.dep ≤ n → e.dep ≤ n → n < 1000 → Rep H d x → Rep H e y → RelV x v → RelV y u → A.units + n < cLine → RcAt A s v u (pyEq d e)
  | n, A, s, H, d, e, x, y, v, u, hok, hn, hn', hlt, hd, he, rx, ry, hu => by
    have hu0 : A.units < cLine := by omega
    have items : ∀ {ds es : List D} {vs us : List V} {its its2 : List Value}, D.deps ds + 1 ≤ n → D.deps es + 1 ≤ n → Reps H ds vs → Reps H es us → Vals vs its → Vals us its2 → ∀ j (h1 : j < its.toArray.size) (h2 : j < its2.toArray.size), EqAt A.in1 s its.toArray[j] its2.toArray[j] (eqIx ds es j) := by
      intro ds es vs us its its2 hdep hdep' r1 r2 v1 v2 j h1 h2
      have l1 := r1.length
      have l2 := r2.length
      have l3 := v1.length
      have l4 := v2.length
      rw [List.size_toArray] at h1 h2
      obtain ⟨a, ea, ra⟩ := r1.get (j := j) (by omega)
      obtain ⟨b, eb, rb⟩ := r2.get (j := j) (by omega)
      obtain ⟨va, eva, rva⟩ := v1.get ea
      obtain ⟨vb, evb, rvb⟩ := v2.get eb
      have ga : its.toArray[j]'(by simpa using h1) = va := by
        rw [List.getElem?_eq_getElem h1] at eva
        simpa using Option.some.inj eva
      have gb : its2.toArray[j]'(by simpa using h2) = vb := by
        rw [List.getElem?_eq_getElem h2] at evb
        simpa using Option.some.inj evb
      rw [ga, gb]
      have hdj := D.dep_get ds j
      have hdj' := D.dep_get es j
      refine eqAt_of_rc (ra.noflt rva) (fun z => ?_) (rep_rc (n - 1) hok (by omega) (by omega) (by omega) ra rb rva rvb (by rw [Around.in1_units]; omega))
      subst z
      have := rva.inj rvb
      subst this
      have := ra.inj rb
      unfold eqIx
      rw [this]
      exact pyEq_refl _
    cases d with
    | dct => simp only [D.dep] at hn; omega
    | non =>
      simp only [Rep] at hd; subst hd
      cases (show v = Value.none from rx)
      cases e with
      | dct => simp only [D.dep] at hn'; omega
      | non => simp only [Rep] at he; subst he; cases (show u = Value.none from ry); simp only [pyEq]; exact RcAt.none_none
      | bl b => simp only [Rep] at he; subst he; cases (show u = Value.bool b from ry); simp only [pyEq]; exact RcAt.none_bool _
      | int b => simp only [Rep] at he; subst he; obtain ⟨t, rfl⟩ := ry; simp only [pyEq]; exact RcAt.none_int _ _
      | str b => simp only [Rep] at he; subst he; obtain ⟨t, rfl⟩ := ry; simp only [pyEq]; exact RcAt.none_str _ _
      | lst ds => simp only [Rep] at he; obtain ⟨a, vs, rfl, h1, h2⟩ := he; cases (show u = Value.ref a from ry); obtain ⟨_, its, k, _, h3⟩ := (show ObjOk P w H s.heap a (.lst vs) from hok a _ h1); simp only [pyEq]; exact RcAt.none_list (items := its.toArray) ⟨_, h3, rfl, k, rfl⟩ hu0
      | tup ds => simp only [Rep] at he; obtain ⟨a, vs, rfl, h1, h2⟩ := he; cases (show u = Value.ref a from ry); obtain ⟨_, its, _, h3⟩ := (show ObjOk P w H s.heap a (.tup vs) from hok a _ h1); simp only [pyEq]; exact RcAt.none_tuple h3 hu0
    | bl c =>
      simp only [Rep] at hd; subst hd
      cases (show v = Value.bool c from rx)
      cases e with
      | dct => simp only [D.dep] at hn'; omega
      | non => simp only [Rep] at he; subst he; cases (show u = Value.none from ry); simp only [pyEq]; exact RcAt.bool_none _
      | bl b => simp only [Rep] at he; subst he; cases (show u = Value.bool b from ry); simp only [pyEq]; exact RcAt.bool_bool _ _
      | int b => simp only [Rep] at he; subst he; obtain ⟨t, rfl⟩ := ry; simp only [pyEq]; exact RcAt.bool_int _ _ _
      | str b => simp only [Rep] at he; subst he; obtain ⟨t, rfl⟩ := ry; simp only [pyEq]; exact RcAt.bool_str _ _ _
      | lst ds => simp only [Rep] at he; obtain ⟨a, vs, rfl, h1, h2⟩ := he; cases (show u = Value.ref a from ry); obtain ⟨_, its, k, _, h3⟩ := (show ObjOk P w H s.heap a (.lst vs) from hok a _ h1); simp only [pyEq]; exact RcAt.bool_list (items := its.toArray) _ ⟨_, h3, rfl, k, rfl⟩ hu0
      | tup ds => simp only [Rep] at he; obtain ⟨a, vs, rfl, h1, h2⟩ := he; cases (show u = Value.ref a from ry); obtain ⟨_, its, _, h3⟩ := (show ObjOk P w H s.heap a (.tup vs) from hok a _ h1); simp only [pyEq]; exact RcAt.bool_tuple _ h3 hu0
    | int c =>
      simp only [Rep] at hd; subst hd
      obtain ⟨t', rfl⟩ := rx
      cases e with
      | dct => simp only [D.dep] at hn'; omega
      | non => simp only [Rep] at he; subst he; cases (show u = Value.none from ry); simp only [pyEq]; exact RcAt.int_none _ _
      | bl b => simp only [Rep] at he; subst he; cases (show u = Value.bool b from ry); simp only [pyEq]; exact RcAt.int_bool _ _ _
      | int b => simp only [Rep] at he; subst he; obtain ⟨t, rfl⟩ := ry; simp only [pyEq]; exact RcAt.int_int _ _ _ _
      | str b => simp only [Rep] at he; subst he; obtain ⟨t, rfl⟩ := ry; simp only [pyEq]; exact RcAt.int_str _ _ _ _
      | lst ds => simp only [Rep] at he; obtain ⟨a, vs, rfl, h1, h2⟩ := he; cases (show u = Value.ref a from ry); obtain ⟨_, its, k, _, h3⟩ := (show ObjOk P w H s.heap a (.lst vs) from hok a _ h1); simp only [pyEq]; exact RcAt.int_list (items := its.toArray) _ _ ⟨_, h3, rfl, k, rfl⟩ hu0
      | tup ds => simp only [Rep] at he; obtain ⟨a, vs, rfl, h1, h2⟩ := he; cases (show u = Value.ref a from ry); obtain ⟨_, its, _, h3⟩ := (show ObjOk P w H s.heap a (.tup vs) from hok a _ h1); simp only [pyEq]; exact RcAt.int_tuple _ _ h3 hu0
    | str c =>
      simp only [Rep] at hd; subst hd
      obtain ⟨t', rfl⟩ := rx
      cases e with
      | dct => simp only [D.dep] at hn'; omega
      | non => simp only [Rep] at he; subst he; cases (show u = Value.none from ry); simp only [pyEq]; exact RcAt.str_none _ _
      | bl b => simp only [Rep] at he; subst he; cases (show u = Value.bool b from ry); simp only [pyEq]; exact RcAt.str_bool _ _ _
      | int b => simp only [Rep] at he; subst he; obtain ⟨t, rfl⟩ := ry; simp only [pyEq]; exact RcAt.str_int _ _ _ _
      | str b => simp only [Rep] at he; subst he; obtain ⟨t, rfl⟩ := ry; simp only [pyEq]; exact RcAt.str_str _ _ _ _
      | lst ds => simp only [Rep] at he; obtain ⟨a, vs, rfl, h1, h2⟩ := he; cases (show u = Value.ref a from ry); obtain ⟨_, its, k, _, h3⟩ := (show ObjOk P w H s.heap a (.lst vs) from hok a _ h1); simp only [pyEq]; exact RcAt.str_list (items := its.toArray) _ _ ⟨_, h3, rfl, k, rfl⟩ hu0
      | tup ds => simp only [Rep] at he; obtain ⟨a, vs, rfl, h1, h2⟩ := he; cases (show u = Value.ref a from ry); obtain ⟨_, its, _, h3⟩ := (show ObjOk P w H s.heap a (.tup vs) from hok a _ h1); simp only [pyEq]; exact RcAt.str_tuple _ _ h3 hu0
    | lst cs =>
      simp only [Rep] at hd
      obtain ⟨b, ws, rfl, g1, g2⟩ := hd
      cases (show v = Value.ref b from rx)
      obtain ⟨_, jts, m, g4, g3⟩ := (show ObjOk P w H s.heap b (.lst ws) from hok b _ g1)
      have gl : s.heap.IsList b jts.toArray := ⟨_, g3, rfl, m, rfl⟩
      cases e with
      | dct => simp only [D.dep] at hn'; omega
      | non => simp only [Rep] at he; subst he; cases (show u = Value.none from ry); simp only [pyEq]; exact RcAt.list_none gl hu0
      | bl b => simp only [Rep] at he; subst he; cases (show u = Value.bool b from ry); simp only [pyEq]; exact RcAt.list_bool _ gl hu0
      | int b => simp only [Rep] at he; subst he; obtain ⟨t, rfl⟩ := ry; simp only [pyEq]; exact RcAt.list_int _ _ gl hu0
      | str b => simp only [Rep] at he; subst he; obtain ⟨t, rfl⟩ := ry; simp only [pyEq]; exact RcAt.list_str _ _ gl hu0
      | lst ds =>
        simp only [Rep] at he
        obtain ⟨a, vs, rfl, h1, h2⟩ := he
        cases (show u = Value.ref a from ry)
        obtain ⟨_, its, k, h4, h3⟩ := (show ObjOk P w H s.heap a (.lst vs) from hok a _ h1)
        simp only [pyEq]
        have l1 := g2.length
        have l2 := h2.length
        have l3 := g4.length
        have l4 := h4.length
        by_cases hl : cs.length = ds.length
        · rw [← pyEqs_range hl]
          have e1 : cs.length = jts.toArray.size := by rw [List.size_toArray]; omega
          rw [e1]
          exact RcAt.lists gl ⟨_, h3, rfl, k, rfl⟩ (by rw [List.size_toArray, List.size_toArray]; omega) hu0 (items (by simp only [D.dep] at hn; omega) (by simp only [D.dep] at hn'; omega) g2 h2 g4 h4)
        · rw [pyEqs_len hl]
          exact RcAt.lists_lengths (items2 := its.toArray) gl ⟨_, h3, rfl, k, rfl⟩ (by rw [List.size_toArray, List.size_toArray]; exact bne_iff_ne.mpr (by omega)) hu0
      | tup ds => simp only [Rep] at he; obtain ⟨a, vs, rfl, h1, h2⟩ := he; cases (show u = Value.ref a from ry); obtain ⟨_, its, _, h3⟩ := (show ObjOk P w H s.heap a (.tup vs) from hok a _ h1); simp only [pyEq]; exact RcAt.list_tuple gl h3 hu0
    | tup cs =>
      simp only [Rep] at hd
      obtain ⟨b, ws, rfl, g1, g2⟩ := hd
      cases (show v = Value.ref b from rx)
      obtain ⟨_, jts, g4, gl⟩ := (show ObjOk P w H s.heap b (.tup ws) from hok b _ g1)
      cases e with
      | dct => simp only [D.dep] at hn'; omega
      | non => simp only [Rep] at he; subst he; cases (show u = Value.none from ry); simp only [pyEq]; exact RcAt.tuple_none gl hu0
      | bl b => simp only [Rep] at he; subst he; cases (show u = Value.bool b from ry); simp only [pyEq]; exact RcAt.tuple_bool _ gl hu0
      | int b => simp only [Rep] at he; subst he; obtain ⟨t, rfl⟩ := ry; simp only [pyEq]; exact RcAt.tuple_int _ _ gl hu0
      | str b => simp only [Rep] at he; subst he; obtain ⟨t, rfl⟩ := ry; simp only [pyEq]; exact RcAt.tuple_str _ _ gl hu0
      | lst ds => simp only [Rep] at he; obtain ⟨a, vs, rfl, h1, h2⟩ := he; cases (show u = Value.ref a from ry); obtain ⟨_, its, k, _, h3⟩ := (show ObjOk P w H s.heap a (.lst vs) from hok a _ h1); simp only [pyEq]; exact RcAt.tuple_list (items2 := its.toArray) gl ⟨_, h3, rfl, k, rfl⟩ hu0
      | tup ds =>
        simp only [Rep] at he
        obtain ⟨a, vs, rfl, h1, h2⟩ := he
        cases (show u = Value.ref a from ry)
        obtain ⟨_, its, h4, h3⟩ := (show ObjOk P w H s.heap a (.tup vs) from hok a _ h1)
        simp only [pyEq]
        have l1 := g2.length
        have l2 := h2.length
        have l3 := g4.length
        have l4 := h4.length
        rw [← len_min_all (n := jts.toArray.size) (m := its.toArray.size) (by rw [List.size_toArray]; omega) (by rw [List.size_toArray]; omega) rfl]
        exact RcAt.tuples gl h3 hu0 (items (by simp only [D.dep] at hn; omega) (by simp only [D.dep] at hn'; omega) g2 h2 g4 h4)
termination_by n => n
decreasing_by all_goals simp_wf; omega
theorem rep_rcne {P : Program} {w : World} : ∀ (n : Nat) {A : Around} {s : Shared} {H : Hp} {d e : D} {x y : V} {v u : Value}, HOk P w H s.heap → d.dep ≤ n → e.dep ≤ n → n < 1000 → Rep H d x → Rep H e y → RelV x v → RelV y u → A.units + n < cLine → RcNeAt A s v u (!pyEq d e)
  | n, A, s, H, d, e, x, y, v, u, hok, hn, hn', hlt, hd, he, rx, ry, hu => by
    have hu0 : A.units < cLine := by omega
    have items : ∀ {ds es : List D} {vs us : List V} {its its2 : List Value}, D.deps ds + 1 ≤ n → D.deps es + 1 ≤ n → Reps H ds vs → Reps H es us → Vals vs its → Vals us its2 → ∀ j (h1 : j < its.toArray.size) (h2 : j < its2.toArray.size), EqAt A.in1 s its.toArray[j] its2.toArray[j] (eqIx ds es j) := by
      intro ds es vs us its its2 hdep hdep' r1 r2 v1 v2 j h1 h2
      have l1 := r1.length
      have l2 := r2.length
      have l3 := v1.length
      have l4 := v2.length
      rw [List.size_toArray] at h1 h2
      obtain ⟨a, ea, ra⟩ := r1.get (j := j) (by omega)
      obtain ⟨b, eb, rb⟩ := r2.get (j := j) (by omega)
      obtain ⟨va, eva, rva⟩ := v1.get ea
      obtain ⟨vb, evb, rvb⟩ := v2.get eb
      have ga : its.toArray[j]'(by simpa using h1) = va := by
        rw [List.getElem?_eq_getElem h1] at eva
        simpa using Option.some.inj eva
      have gb : its2.toArray[j]'(by simpa using h2) = vb := by
        rw [List.getElem?_eq_getElem h2] at evb
        simpa using Option.some.inj evb
      rw [ga, gb]
      have hdj := D.dep_get ds j
      have hdj' := D.dep_get es j
      refine eqAt_of_rc (ra.noflt rva) (fun z => ?_) (rep_rc (n - 1) hok (by omega) (by omega) (by omega) ra rb rva rvb (by rw [Around.in1_units]; omega))
      subst z
      have := rva.inj rvb
      subst this
      have := ra.inj rb
      unfold eqIx
      rw [this]
      exact pyEq_refl _
    cases d with
    | dct => simp only [D.dep] at hn; omega
    | non =>
      simp only [Rep] at hd; subst hd
      cases (show v = Value.none from rx)
      cases e with
      | dct => simp only [D.dep] at hn'; omega
      | non => simp only [Rep] at he; subst he; cases (show u = Value.none from ry); simp only [pyEq]; exact RcNeAt.none_none
      | bl b => simp only [Rep] at he; subst he; cases (show u = Value.bool b from ry); simp only [pyEq]; exact RcNeAt.none_bool _
      | int b => simp only [Rep] at he; subst he; obtain ⟨t, rfl⟩ := ry; simp only [pyEq]; exact RcNeAt.none_int _ _
      | str b => simp only [Rep] at he; subst he; obtain ⟨t, rfl⟩ := ry; simp only [pyEq]; exact RcNeAt.none_str _ _
      | lst ds => simp only [Rep] at he; obtain ⟨a, vs, rfl, h1, h2⟩ := he; cases (show u = Value.ref a from ry); obtain ⟨_, its, k, _, h3⟩ := (show ObjOk P w H s.heap a (.lst vs) from hok a _ h1); simp only [pyEq]; exact RcNeAt.none_list (items := its.toArray) ⟨_, h3, rfl, k, rfl⟩ hu0
      | tup ds => simp only [Rep] at he; obtain ⟨a, vs, rfl, h1, h2⟩ := he; cases (show u = Value.ref a from ry); obtain ⟨_, its, _, h3⟩ := (show ObjOk P w H s.heap a (.tup vs) from hok a _ h1); simp only [pyEq]; exact RcNeAt.none_tuple h3 hu0
    | bl c =>
      simp only [Rep] at hd; subst hd
      cases (show v = Value.bool c from rx)
      cases e with
      | dct => simp only [D.dep] at hn'; omega
      | non => simp only [Rep] at he; subst he; cases (show u = Value.none from ry); simp only [pyEq]; exact RcNeAt.bool_none _
      | bl b => simp only [Rep] at he; subst he; cases (show u = Value.bool b from ry); simp only [pyEq]; exact RcNeAt.bool_bool _ _
      | int b => simp only [Rep] at he; subst he; obtain ⟨t, rfl⟩ := ry; simp only [pyEq]; exact RcNeAt.bool_int _ _ _
      | str b => simp only [Rep] at he; subst he; obtain ⟨t, rfl⟩ := ry; simp only [pyEq]; exact RcNeAt.bool_str _ _ _
      | lst ds => simp only [Rep] at he; obtain ⟨a, vs, rfl, h1, h2⟩ := he; cases (show u = Value.ref a from ry); obtain ⟨_, its, k, _, h3⟩ := (show ObjOk P w H s.heap a (.lst vs) from hok a _ h1); simp only [pyEq]; exact RcNeAt.bool_list (items := its.toArray) _ ⟨_, h3, rfl, k, rfl⟩ hu0
      | tup ds => simp only [Rep] at he; obtain ⟨a, vs, rfl, h1, h2⟩ := he; cases (show u = Value.ref a from ry); obtain ⟨_, its, _, h3⟩ := (show ObjOk P w H s.heap a (.tup vs) from hok a _ h1); simp only [pyEq]; exact RcNeAt.bool_tuple _ h3 hu0
    | int c =>
      simp only [Rep] at hd; subst hd
      obtain ⟨t', rfl⟩ := rx
      cases e with
      | dct => simp only [D.dep] at hn'; omega
      | non => simp only [Rep] at he; subst he; cases (show u = Value.none from ry); simp only [pyEq]; exact RcNeAt.int_none _ _
      | bl b => simp only [Rep] at he; subst he; cases (show u = Value.bool b from ry); simp only [pyEq]; exact RcNeAt.int_bool _ _ _
      | int b => simp only [Rep] at he; subst he; obtain ⟨t, rfl⟩ := ry; simp only [pyEq]; exact RcNeAt.int_int _ _ _ _
      | str b => simp only [Rep] at he; subst he; obtain ⟨t, rfl⟩ := ry; simp only [pyEq]; exact RcNeAt.int_str _ _ _ _
      | lst ds => simp only [Rep] at he; obtain ⟨a, vs, rfl, h1, h2⟩ := he; cases (show u = Value.ref a from ry); obtain ⟨_, its, k, _, h3⟩ := (show ObjOk P w H s.heap a (.lst vs) from hok a _ h1); simp only [pyEq]; exact RcNeAt.int_list (items := its.toArray) _ _ ⟨_, h3, rfl, k, rfl⟩ hu0
      | tup ds => simp only [Rep] at he; obtain ⟨a, vs, rfl, h1, h2⟩ := he; cases (show u = Value.ref a from ry); obtain ⟨_, its, _, h3⟩ := (show ObjOk P w H s.heap a (.tup vs) from hok a _ h1); simp only [pyEq]; exact RcNeAt.int_tuple _ _ h3 hu0
    | str c =>
      simp only [Rep] at hd; subst hd
      obtain ⟨t', rfl⟩ := rx
      cases e with
      | dct => simp only [D.dep] at hn'; omega
      | non => simp only [Rep] at he; subst he; cases (show u = Value.none from ry); simp only [pyEq]; exact RcNeAt.str_none _ _
      | bl b => simp only [Rep] at he; subst he; cases (show u = Value.bool b from ry); simp only [pyEq]; exact RcNeAt.str_bool _ _ _
      | int b => simp only [Rep] at he; subst he; obtain ⟨t, rfl⟩ := ry; simp only [pyEq]; exact RcNeAt.str_int _ _ _ _
      | str b => simp only [Rep] at he; subst he; obtain ⟨t, rfl⟩ := ry; simp only [pyEq]; exact RcNeAt.str_str _ _ _ _
      | lst ds => simp only [Rep] at he; obtain ⟨a, vs, rfl, h1, h2⟩ := he; cases (show u = Value.ref a from ry); obtain ⟨_, its, k, _, h3⟩ := (show ObjOk P w H s.heap a (.lst vs) from hok a _ h1); simp only [pyEq]; exact RcNeAt.str_list (items := its.toArray) _ _ ⟨_, h3, rfl, k, rfl⟩ hu0
      | tup ds => simp only [Rep] at he; obtain ⟨a, vs, rfl, h1, h2⟩ := he; cases (show u = Value.ref a from ry); obtain ⟨_, its, _, h3⟩ := (show ObjOk P w H s.heap a (.tup vs) from hok a _ h1); simp only [pyEq]; exact RcNeAt.str_tuple _ _ h3 hu0
    | lst cs =>
      simp only [Rep] at hd
      obtain ⟨b, ws, rfl, g1, g2⟩ := hd
      cases (show v = Value.ref b from rx)
      obtain ⟨_, jts, m, g4, g3⟩ := (show ObjOk P w H s.heap b (.lst ws) from hok b _ g1)
      have gl : s.heap.IsList b jts.toArray := ⟨_, g3, rfl, m, rfl⟩
      cases e with
      | dct => simp only [D.dep] at hn'; omega
      | non => simp only [Rep] at he; subst he; cases (show u = Value.none from ry); simp only [pyEq]; exact RcNeAt.list_none gl hu0
      | bl b => simp only [Rep] at he; subst he; cases (show u = Value.bool b from ry); simp only [pyEq]; exact RcNeAt.list_bool _ gl hu0
      | int b => simp only [Rep] at he; subst he; obtain ⟨t, rfl⟩ := ry; simp only [pyEq]; exact RcNeAt.list_int _ _ gl hu0
      | str b => simp only [Rep] at he; subst he; obtain ⟨t, rfl⟩ := ry; simp only [pyEq]; exact RcNeAt.list_str _ _ gl hu0
      | lst ds =>
        simp only [Rep] at he
        obtain ⟨a, vs, rfl, h1, h2⟩ := he
        cases (show u = Value.ref a from ry)
        obtain ⟨_, its, k, h4, h3⟩ := (show ObjOk P w H s.heap a (.lst vs) from hok a _ h1)
        simp only [pyEq]
        have l1 := g2.length
        have l2 := h2.length
        have l3 := g4.length
        have l4 := h4.length
        by_cases hl : cs.length = ds.length
        · rw [← pyEqs_range hl]
          have e1 : cs.length = jts.toArray.size := by rw [List.size_toArray]; omega
          rw [e1]
          exact RcNeAt.lists gl ⟨_, h3, rfl, k, rfl⟩ (by rw [List.size_toArray, List.size_toArray]; omega) hu0 (items (by simp only [D.dep] at hn; omega) (by simp only [D.dep] at hn'; omega) g2 h2 g4 h4)
        · rw [pyEqs_len hl]
          exact RcNeAt.lists_lengths (items2 := its.toArray) gl ⟨_, h3, rfl, k, rfl⟩ (by rw [List.size_toArray, List.size_toArray]; exact bne_iff_ne.mpr (by omega)) hu0
      | tup ds => simp only [Rep] at he; obtain ⟨a, vs, rfl, h1, h2⟩ := he; cases (show u = Value.ref a from ry); obtain ⟨_, its, _, h3⟩ := (show ObjOk P w H s.heap a (.tup vs) from hok a _ h1); simp only [pyEq]; exact RcNeAt.list_tuple gl h3 hu0
    | tup cs =>
      simp only [Rep] at hd
      obtain ⟨b, ws, rfl, g1, g2⟩ := hd
      cases (show v = Value.ref b from rx)
      obtain ⟨_, jts, g4, gl⟩ := (show ObjOk P w H s.heap b (.tup ws) from hok b _ g1)
      cases e with
      | dct => simp only [D.dep] at hn'; omega
      | non => simp only [Rep] at he; subst he; cases (show u = Value.none from ry); simp only [pyEq]; exact RcNeAt.tuple_none gl hu0
      | bl b => simp only [Rep] at he; subst he; cases (show u = Value.bool b from ry); simp only [pyEq]; exact RcNeAt.tuple_bool _ gl hu0
      | int b => simp only [Rep] at he; subst he; obtain ⟨t, rfl⟩ := ry; simp only [pyEq]; exact RcNeAt.tuple_int _ _ gl hu0
      | str b => simp only [Rep] at he; subst he; obtain ⟨t, rfl⟩ := ry; simp only [pyEq]; exact RcNeAt.tuple_str _ _ gl hu0
      | lst ds => simp only [Rep] at he; obtain ⟨a, vs, rfl, h1, h2⟩ := he; cases (show u = Value.ref a from ry); obtain ⟨_, its, k, _, h3⟩ := (show ObjOk P w H s.heap a (.lst vs) from hok a _ h1); simp only [pyEq]; exact RcNeAt.tuple_list (items2 := its.toArray) gl ⟨_, h3, rfl, k, rfl⟩ hu0
      | tup ds =>
        simp only [Rep] at he
        obtain ⟨a, vs, rfl, h1, h2⟩ := he
        cases (show u = Value.ref a from ry)
        obtain ⟨_, its, h4, h3⟩ := (show ObjOk P w H s.heap a (.tup vs) from hok a _ h1)
        simp only [pyEq]
        have l1 := g2.length
        have l2 := h2.length
        have l3 := g4.length
        have l4 := h4.length
        rw [← len_min_all (n := jts.toArray.size) (m := its.toArray.size) (by rw [List.size_toArray]; omega) (by rw [List.size_toArray]; omega) rfl]
        exact RcNeAt.tuples gl h3 hu0 (items (by simp only [D.dep] at hn; omega) (by simp only [D.dep] at hn'; omega) g2 h2 g4 h4)
section
variable {X : Cx}
def rEqD : R2 := fun x y H Q => ∃ d e, Rep H d x ∧ Rep H e y ∧ d.dep ≤ 100 ∧ e.dep ≤ 100 ∧ Q (.bl (pyEq d e)) H
def rNeD : R2 := fun x y H Q => ∃ d e, Rep H d x ∧ Rep H e y ∧ d.dep ≤ 100 ∧ e.dep ≤ 100 ∧ Q (.bl (!pyEq d e)) H
theorem o_eqD (hu : X.A.units + 100 < cLine) : OpR X (compareOp .Eq) rEqD := by
  intro pins s σ H x y v u Q I rx ry h
  obtain ⟨d, e, hd, he, hn, hn', q⟩ := h
  show wpAny _ _ (richCompare .Eq _ _) _ _ s
  exact rep_rc 100 I.hok hn hn' (by decide) hd he rx ry hu _ _ _ _ ⟨.bl (pyEq d e), H, I, rfl, q⟩
theorem o_neD (hu : X.A.units + 100 < cLine) : OpR X (compareOp .NotEq) rNeD := by
  intro pins s σ H x y v u Q I rx ry h
  obtain ⟨d, e, hd, he, hn, hn', q⟩ := h
  show wpAny _ _ (richCompare .NotEq _ _) _ _ s
  exact rep_rcne 100 I.hok hn hn' (by decide) hd he rx ry hu _ _ _ _ ⟨.bl (!pyEq d e), H, I, rfl, q⟩
end
end L2
namespace L2
open PySem PySem.Spec PyProof.Rows
theorem kit_non_str (K : PySem.W.Frag) : PySem.W.kitOne K (.type "NoneType") (.type "str") = some false := by kernel_rfl
theorem kit_non_int (K : PySem.W.Frag) : PySem.W.kitOne K (.type "NoneType") (.type "int") = some false := by kernel_rfl
theorem kit_non_bool (K : PySem.W.Frag) : PySem.W.kitOne K (.type "NoneType") (.type "bool") = some false := by kernel_rfl
theorem kit_non_tuple (K : PySem.W.Frag) : PySem.W.kitOne K (.type "NoneType") (.type "tuple") = some false := by kernel_rfl
theorem kit_non_list (K : PySem.W.Frag) : PySem.W.kitOne K (.type "NoneType") (.type "list") = some false := by kernel_rfl
theorem kit_non_dict (K : PySem.W.Frag) : PySem.W.kitOne K (.type "NoneType") (.type "dict") = some false := by kernel_rfl
theorem kit_bl_str (K : PySem.W.Frag) : PySem.W.kitOne K (.type "bool") (.type "str") = some false := by kernel_rfl
theorem kit_bl_int (K : PySem.W.Frag) : PySem.W.kitOne K (.type "bool") (.type "int") = some true := by kernel_rfl
theorem kit_bl_bool (K : PySem.W.Frag) : PySem.W.kitOne K (.type "bool") (.type "bool") = some true := by kernel_rfl
theorem kit_bl_tuple (K : PySem.W.Frag) : PySem.W.kitOne K (.type "bool") (.type "tuple") = some false := by kernel_rfl
theorem kit_bl_list (K : PySem.W.Frag) : PySem.W.kitOne K (.type "bool") (.type "list") = some false := by kernel_rfl
theorem kit_bl_dict (K : PySem.W.Frag) : PySem.W.kitOne K (.type "bool") (.type "dict") = some false := by kernel_rfl
theorem kit_int_str (K : PySem.W.Frag) : PySem.W.kitOne K (.type "int") (.type "str") = some false := by kernel_rfl
theorem kit_int_int (K : PySem.W.Frag) : PySem.W.kitOne K (.type "int") (.type "int") = some true := by kernel_rfl
theorem kit_int_bool (K : PySem.W.Frag) : PySem.W.kitOne K (.type "int") (.type "bool") = some false := by kernel_rfl
theorem kit_int_tuple (K : PySem.W.Frag) : PySem.W.kitOne K (.type "int") (.type "tuple") = some false := by kernel_rfl
theorem kit_int_list (K : PySem.W.Frag) : PySem.W.kitOne K (.type "int") (.type "list") = some false := by kernel_rfl
theorem kit_int_dict (K : PySem.W.Frag) : PySem.W.kitOne K (.type "int") (.type "dict") = some false := by kernel_rfl
theorem kit_str_str (K : PySem.W.Frag) : PySem.W.kitOne K (.type "str") (.type "str") = some true := by kernel_rfl
theorem kit_str_int (K : PySem.W.Frag) : PySem.W.kitOne K (.type "str") (.type "int") = some false := by kernel_rfl
theorem kit_str_bool (K : PySem.W.Frag) : PySem.W.kitOne K (.type "str") (.type "bool") = some false := by kernel_rfl
theorem kit_str_tuple (K : PySem.W.Frag) : PySem.W.kitOne K (.type "str") (.type "tuple") = some false := by kernel_rfl
theorem kit_str_list (K : PySem.W.Frag) : PySem.W.kitOne K (.type "str") (.type "list") = some false := by kernel_rfl
theorem kit_str_dict (K : PySem.W.Frag) : PySem.W.kitOne K (.type "str") (.type "dict") = some false := by kernel_rfl
theorem kit_lst_str (K : PySem.W.Frag) : PySem.W.kitOne K (.type "list") (.type "str") = some false := by kernel_rfl
theorem kit_lst_int (K : PySem.W.Frag) : PySem.W.kitOne K (.type "list") (.type "int") = some false := by kernel_rfl
theorem kit_lst_bool (K : PySem.W.Frag) : PySem.W.kitOne K (.type "list") (.type "bool") = some false := by kernel_rfl
theorem kit_lst_tuple (K : PySem.W.Frag) : PySem.W.kitOne K (.type "list") (.type "tuple") = some false := by kernel_rfl
theorem kit_lst_list (K : PySem.W.Frag) : PySem.W.kitOne K (.type "list") (.type "list") = some true := by kernel_rfl
theorem kit_lst_dict (K : PySem.W.Frag) : PySem.W.kitOne K (.type "list") (.type "dict") = some false := by kernel_rfl
theorem kit_tup_str (K : PySem.W.Frag) : PySem.W.kitOne K (.type "tuple") (.type "str") = some false := by kernel_rfl
theorem kit_tup_int (K : PySem.W.Frag) : PySem.W.kitOne K (.type "tuple") (.type "int") = some false := by kernel_rfl
theorem kit_tup_bool (K : PySem.W.Frag) : PySem.W.kitOne K (.type "tuple") (.type "bool") = some false := by kernel_rfl
theorem kit_tup_tuple (K : PySem.W.Frag) : PySem.W.kitOne K (.type "tuple") (.type "tuple") = some true := by kernel_rfl
theorem kit_tup_list (K : PySem.W.Frag) : PySem.W.kitOne K (.type "tuple") (.type "list") = some false := by kernel_rfl
theorem kit_tup_dict (K : PySem.W.Frag) : PySem.W.kitOne K (.type "tuple") (.type "dict") = some false := by kernel_rfl
theorem kit_dK_str (K : PySem.W.Frag) : PySem.W.kitOne K (.type "dict") (.type "str") = some false := by kernel_rfl
theorem kit_dK_int (K : PySem.W.Frag) : PySem.W.kitOne K (.type "dict") (.type "int") = some false := by kernel_rfl
theorem kit_dK_bool (K : PySem.W.Frag) : PySem.W.kitOne K (.type "dict") (.type "bool") = some false := by kernel_rfl
theorem kit_dK_tuple (K : PySem.W.Frag) : PySem.W.kitOne K (.type "dict") (.type "tuple") = some false := by kernel_rfl
theorem kit_dK_list (K : PySem.W.Frag) : PySem.W.kitOne K (.type "dict") (.type "list") = some false := by kernel_rfl
theorem kit_dK_dict (K : PySem.W.Frag) : PySem.W.kitOne K (.type "dict") (.type "dict") = some true := by kernel_rfl
section
variable {X : Cx} {K : PySem.W.Frag} {σ : St} {H : Hp} {D : Ends} {Q : VK} {E : XK}
def rIs (K : PySem.W.Frag) : List V → Hp → VK → Prop := fun xs H Q => ∃ x T t b, xs = [x, .ty T] ∧ TyOf K H x t ∧ PySem.W.kitOne K t (.type T) = some b ∧ Q (.bl b) H
theorem c_isinst : CallR X (.builtin "isinstance") (rIs X.K) := call_isinst
theorem rd_is {x : V} {T : String} {t : Value} {b : Bool} (ty : TyOf K H x t) (hk : PySem.W.kitOne K t (.type T) = some b) (h : Q (.bl b) H) : rIs K [x, .ty T] H Q := ⟨x, T, t, b, rfl, ty, hk, h⟩
def rLen (K : PySem.W.Frag) : List V → Hp → VK → Prop := fun xs H Q => ∃ x n, xs = [x] ∧ LenV K x H n ∧ Q (.int n) H
theorem c_len : CallR X (.builtin "len") (rLen X.K) := call_len
theorem rd_lenS {z : Str} (hz : z.length ≤ sizeLine) (h : Q (.int z.length) H) : rLen K [.str z] H Q := ⟨_, _, rfl, ⟨hz, rfl⟩, h⟩
theorem rd_lenL {a : Addr} {xs : List V} (e : SqL K H a xs) (h : Q (.int xs.length) H) : rLen K [.ref a] H Q := ⟨_, _, rfl, .inl ⟨xs, e, rfl⟩, h⟩
def rMin : List V → Hp → VK → Prop := fun xs H Q => ∃ i j, xs = [.int i, .int j] ∧ Q (.int (min i j)) H
theorem c_min (hc : X.calm = true) : CallR X (.builtin "min") rMin := fun pins s σ H xs us Q I r h => call_min2 hc pins s σ H xs us Q I r (by
  obtain ⟨i, j, e, h⟩ := h
  refine ⟨i, j, e, ?_⟩
  rw [show (if j < i then j else i) = min i j by split <;> omega]
  exact h)
theorem rd_min {i j : Int} (h : Q (.int (min i j)) H) : rMin [.int i, .int j] H Q := ⟨i, j, rfl, h⟩
theorem rd_call {sp : Sp} {t : TA} (h : t σ H fun vs H1 => sp vs H1 Q E) : tCall sp [] E t σ H Q := by
  unfold tCall
  simp only [List.append_nil]
  exact h
def mkT (xs : List V) (H : Hp) (Q : VK) : Prop := xs.length ≤ sizeLine ∧ ∀ p H1, Same H H1 → H1 p = some (.tup xs) → Q (.ref p) H1
def mkL (xs : List V) (H : Hp) (Q : VK) : Prop := xs.length ≤ sizeLine ∧ ∀ p H1, H p = none → Same H H1 → H1 p = some (.lst xs) → Q (.ref p) H1
def tTupM (t : TA) : TE := fun σ H Q => t σ H fun xs H1 => mkT xs H1 Q
def tLstM (t : TA) : TE := fun σ H Q => t σ H fun xs H1 => mkL xs H1 Q
theorem pe_tupM {es : List Expr} {t : TA} {x1} {pos : Pos} (h : PA X es t) : PE X (.Tuple es x1 pos) (tTupM t) := fun pins s σ H Q I hq =>
  wpAny_Tuple_spliced (thn (h pos pins s σ H _ I hq) fun us s1 ⟨xs, H1, I1, r, z, q⟩ => by
    have hf : H1 s1.heap.objs.size = none := I1.fresh
    exact ⟨r.length ▸ z, .ref s1.heap.objs.size, _, I1.laid (o := .tup xs) (t' := s1.toks) (fun b u => Heap.get?_push_of_some _) (Nat.le_refl _) ⟨z, us, r, _, Heap.get?_push_size _ rfl, rfl, _, rfl⟩, rfl, q _ _ (same_new hf) upd_same⟩)
theorem pe_lstM {es : List Expr} {t : TA} {pos : Pos} (h : PA X es t) : PE X (.List es pos) (tLstM t) := fun pins s σ H Q I hq =>
  wpAny_List_spliced (thn (h pos pins s σ H _ I hq) fun us s1 ⟨xs, H1, I1, r, z, q⟩ => by
    have hf : H1 s1.heap.objs.size = none := I1.fresh
    exact ⟨r.length ▸ z, .ref s1.heap.objs.size, _, I1.laid (o := .lst xs) (t' := s1.toks) (fun b u => Heap.get?_push_of_some _) (Nat.le_refl _) ⟨z, us, 0, r, Heap.get?_push_size _ rfl⟩, rfl, q _ _ hf (same_new hf) upd_same⟩)
theorem rd_mkT {xs : List V} (hz : xs.length ≤ sizeLine) (h : ∀ p H1, Same H H1 → H1 p = some (.tup xs) → Q (.ref p) H1) : mkT xs H Q := ⟨hz, h⟩
theorem rd_mkL {xs : List V} (hz : xs.length ≤ sizeLine) (h : ∀ p H1, H p = none → Same H H1 → H1 p = some (.lst xs) → Q (.ref p) H1) : mkL xs H Q := ⟨hz, h⟩
theorem rd_ixL {a : Addr} {xs : List V} {i : Int} {v : V} (e : SqL K H a xs) (g : atI xs i = some v) (h : Q v H) : rIx K (.ref a) (.int i) H Q := .inl ⟨a, xs, i, v, rfl, rfl, e, g, h⟩
theorem rd_ixT {a : Addr} {xs : List V} {i : Int} {v : V} (e : SqT K H a xs) (g : atI xs i = some v) (h : Q v H) : rIx K (.ref a) (.int i) H Q := .inr (.inl ⟨a, xs, i, v, rfl, rfl, e, g, h⟩)
theorem rd_ixS {z : Str} {i : Int} {c : Nat} (hz : z.length ≤ sizeLine) (g : atI z.cps.toList i = some c) (h : Q (.str ⟨#[c]⟩) H) : rIx K (.str z) (.int i) H Q := .inr (.inr ⟨z, i, c, rfl, rfl, hz, g, h⟩)
theorem rd_slS {z : Str} {lo hi : Option Int} (hz : z.length ≤ sizeLine) (h : Q (.str (Txt.slice z lo hi)) H) : rSlP K (.str z) lo hi H Q := .inl ⟨z, rfl, hz, h⟩
theorem rd_slL {a : Addr} {xs : List V} {lo hi : Option Int} (e : SqL K H a xs) (h : ∀ p H1, H p = none → Same H H1 → H1 p = some (.lst (cutV xs lo hi)) → Q (.ref p) H1) : rSlP K (.ref a) lo hi H Q :=
  .inr (.inl ⟨a, xs, rfl, e, fun p hp => h p _ hp (same_new hp) upd_same⟩)
theorem rd_slT {a : Addr} {xs : List V} {lo hi : Option Int} (e : SqT K H a xs) (hc : ¬ (HT.sIx xs.length 0 lo = 0 ∧ HT.sIx xs.length xs.length hi = xs.length)) (h : ∀ p H1, Same H H1 → H1 p = some (.tup (cutV xs lo hi)) → Q (.ref p) H1) : rSlP K (.ref a) lo hi H Q :=
  .inr (.inr ⟨a, xs, rfl, e, hc, fun p hp => h p _ (same_new hp) upd_same⟩)
def rIsP : R2 := fun x y H Q => (y = .non ∧ Q (.bl (decide (x = .non))) H) ∨ (∃ i j, x = .bl i ∧ y = .bl j ∧ Q (.bl (i == j)) H)
def rIsntP : R2 := fun x y H Q => (y = .non ∧ Q (.bl (!decide (x = .non))) H) ∨ (∃ i j, x = .bl i ∧ y = .bl j ∧ Q (.bl (i != j)) H)
theorem o_is : OpR X (compareOp .Is) rIsP := op_isN.or op_is_bl
theorem o_isnt : OpR X (compareOp .IsNot) rIsntP := op_notN.or op_isnot_bl
theorem rd_isN {x : V} (h : Q (.bl (decide (x = .non))) H) : rIsP x .non H Q := .inl ⟨rfl, h⟩
theorem rd_isB {i j : Bool} (h : Q (.bl (i == j)) H) : rIsP (.bl i) (.bl j) H Q := .inr ⟨i, j, rfl, rfl, h⟩
theorem rd_isntN {x : V} (h : Q (.bl (!decide (x = .non))) H) : rIsntP x .non H Q := .inl ⟨rfl, h⟩
theorem rd_isntB {i j : Bool} (h : Q (.bl (i != j)) H) : rIsntP (.bl i) (.bl j) H Q := .inr ⟨i, j, rfl, rfl, h⟩
theorem rd_eqI {i j : Int} (h : Q (.bl (decide (i = j))) H) : rEqD (.int i) (.int j) H Q := ⟨.int i, .int j, by simp only [Rep], by simp only [Rep], by simp [D.dep], by simp [D.dep], by simp only [pyEq]; rw [Bool.beq_eq_decide_eq]; exact h⟩
theorem rd_eqS {i j : Str} (h : Q (.bl (decide (i = j))) H) : rEqD (.str i) (.str j) H Q := ⟨.str i, .str j, by simp only [Rep], by simp only [Rep], by simp [D.dep], by simp [D.dep], by simp only [pyEq]; rw [Bool.beq_eq_decide_eq]; exact h⟩
theorem rd_eqB {i j : Bool} (h : Q (.bl (i == j)) H) : rEqD (.bl i) (.bl j) H Q := ⟨.bl i, .bl j, by simp only [Rep], by simp only [Rep], by simp [D.dep], by simp [D.dep], by simp only [pyEq]; exact h⟩
theorem rd_neI {i j : Int} (h : Q (.bl (!decide (i = j))) H) : rNeD (.int i) (.int j) H Q := ⟨.int i, .int j, by simp only [Rep], by simp only [Rep], by simp [D.dep], by simp [D.dep], by simp only [pyEq]; rw [Bool.beq_eq_decide_eq]; exact h⟩
theorem rd_neS {i j : Str} (h : Q (.bl (!decide (i = j))) H) : rNeD (.str i) (.str j) H Q := ⟨.str i, .str j, by simp only [Rep], by simp only [Rep], by simp [D.dep], by simp [D.dep], by simp only [pyEq]; rw [Bool.beq_eq_decide_eq]; exact h⟩
theorem rd_neB {i j : Bool} (h : Q (.bl (!(i == j))) H) : rNeD (.bl i) (.bl j) H Q := ⟨.bl i, .bl j, by simp only [Rep], by simp only [Rep], by simp [D.dep], by simp [D.dep], by simp only [pyEq]; exact h⟩
theorem start_cc {n : Str} {N : List Str} {v : V} {vs : List V} : start (n :: N) (v :: vs) = some v :: start N vs := by simp [start]
theorem start_cn {n : Str} {N : List Str} : start (n :: N) [] = none :: start N [] := by simp [start, List.replicate_succ]
theorem start_nn : start [] [] = [] := rfl
theorem cxK {CX : CXT} {P : Program} {w : World} {K : PySem.W.Frag} {mg : Str → Option Value} {base : Heap} {N : List Str} {q : Str} {sc : Scope} {f : Addr} {cd : Value} {A : Around} {outer : List Env} {s : Shared} {H : Hp} {E : XK} : (cxOf CX P w K mg base N q sc f cd A outer s H E).nox.K = K := rfl
theorem cxK' {CX : CXT} {P : Program} {w : World} {K : PySem.W.Frag} {mg : Str → Option Value} {base : Heap} {N : List Str} {q : Str} {sc : Scope} {f : Addr} {cd : Value} {A : Around} {outer : List Env} {s : Shared} {H : Hp} {E : XK} : (cxOf CX P w K mg base N q sc f cd A outer s H E).K = K := rfl
theorem compK {X : Cx} {sc : Scope} {N : List Str} {C : Addr} {s : Shared} {H : Hp} {ex : List Addr} : (X.comp sc N C s H ex).K = X.K := rfl
theorem room100 {k : Nat} {A : Around} (r : Room k A) : A.units + 100 < cLine := by have := r.un; omega
theorem ite_dec {p A B : Prop} [Decidable p] (h1 : p → A) (h2 : ¬ p → B) : if decide p = true then A else B := ite2 (fun h => h1 (of_decide_eq_true h)) fun h => h2 (fun z => h (decide_eq_true z))
theorem ite_b {b : Bool} {A B : Prop} (h1 : b = true → A) (h2 : b = false → B) : if b = true then A else B := by cases b <;> simp_all
theorem ite_nb {b : Bool} {A B : Prop} (h1 : b = false → A) (h2 : b = true → B) : if (!b) = true then A else B := by cases b <;> simp_all
end
end L2
namespace L2
open PySem PySem.Spec PyProof.Rows
section
variable {X : Cx} {K : PySem.W.Frag} {σ : St} {H : Hp} {D : Ends} {Q : VK} {E : XK}
theorem iteNT {A B : Prop} (h : B) : if (!true) = true then A else B := by simpa using h
theorem iteNF {A B : Prop} (h : A) : if (!false) = true then A else B := by simpa using h
structure PAw (X : Cx) (es : List Expr) (t : TA) : Prop where
  h : PA X es t
section
variable {x : Str} {st : Stmt} {ps : List Str} {f : Addr} {fd : FuncData} {k : Nat} {sp : Sp} {e : Expr} {es : List Expr} {t : TA} {p pos : Pos} {id T : String} {r : List V → Hp → VK → Prop}
end
def ForW (J : It) (g : TG) (tb : TS) (D : Ends) (σ : St) (H : Hp) : Prop := ∃ W : Nat → Nat → St → Hp → Prop, (∃ m, W 0 m σ H) ∧ ∀ i m σ H, W i m σ H →
  (J.stop i H ∧ D.nx σ H) ∨ (J.go i H ∧ ∃ N : St → Hp → Prop, (∀ σ' H', N σ' H' → ∃ m', m' < m ∧ W (i + 1) m' σ' H') ∧ ∀ x H', J.yld i H x H' → g x σ H' fun σ2 H2 => tb { D with nx := N, ct := N, bk := D.nx } σ2 H2)
theorem rd_gTup {n : Nat} {t : TGs} {a : Addr} {xs : List V} {R : St → Hp → Prop} (e : SqT K H a xs) (hn : xs.length = n) (h : t xs σ H R) : gTup K n t (.ref a) σ H R := ⟨a, xs, rfl, e, hn, h⟩
theorem rd_exL {a : Addr} {xs : List V} {P : Addr → Prop} (e : SqL K H a xs) (h : P a) : ∃ b, V.ref a = V.ref b ∧ (∃ xs, SqL K H b xs) ∧ P b := ⟨a, rfl, ⟨xs, e⟩, h⟩
theorem rd_exr1 {j : Int} {P : Int → Prop} (h1 : -(2 ^ 62) ≤ j ∧ j < 2 ^ 62) (h : P j) : ∃ k : Int, [V.int j] = [.int k] ∧ -(2 ^ 62) ≤ k ∧ k < 2 ^ 62 ∧ P k := ⟨j, rfl, h1.1, h1.2, h⟩
theorem forL {a : Addr} {xs : List V} {g : TG} {tb : TS} (Pv : Nat → St → Hp → Prop) (h0 : Pv 0 σ H) (hl : ∀ i σ H, Pv i σ H → SqL K H a xs)
    (hs : ∀ i x σ H, i < xs.length → xs[i]? = some x → Pv i σ H → g x σ H fun σ2 H2 => tb { nx := Pv (i + 1), rt := D.rt, ct := Pv (i + 1), bk := D.nx } σ2 H2) (hd : ∀ σ H, Pv xs.length σ H → D.nx σ H) : ForW (Itl K a) g tb D σ H :=
  for_list Pv h0 (fun i σ H _ => hl i σ H) (fun i x σ H e p => hs i x σ H (List.getElem?_eq_some_iff.mp e).1 e p) hd
theorem forR {lo : Int} {n : Nat} {g : TG} {tb : TS} (Pv : Nat → St → Hp → Prop) (h0 : Pv 0 σ H)
    (hs : ∀ i σ H, i < n → Pv i σ H → g (.int (lo + i)) σ H fun σ2 H2 => tb { nx := Pv (i + 1), rt := D.rt, ct := Pv (i + 1), bk := D.nx } σ2 H2) (hd : ∀ σ H, Pv n σ H → D.nx σ H) : ForW (Itr lo n) g tb D σ H :=
  for_range Pv h0 hs hd
def rList (K : PySem.W.Frag) : List V → Hp → VK → Prop := fun xs H Q => ∃ p ys, xs = [.ref p] ∧ (SqL K H p ys ∨ SqT K H p ys) ∧ ∀ l, H l = none → Q (.ref l) (upd H l (.lst ys))
theorem c_list : CallR X (.type "list") (rList X.K) := call_list_of
theorem rd_listL {p : Addr} {ys : List V} (e : SqL K H p ys) (h : ∀ l H1, H l = none → Same H H1 → H1 l = some (.lst ys) → Q (.ref l) H1) : rList K [.ref p] H Q := ⟨p, ys, rfl, .inl e, fun l hl => h l _ hl (same_new hl) upd_same⟩
end
mutual
def smD : L2.D → Bool
  | .str z => decide (z.length ≤ sizeLine)
  | .lst ds => smDs ds
  | .tup ds => smDs ds
  | _ => true
def smDs : List L2.D → Bool
  | [] => true
  | d :: ds => smD d && smDs ds
end
theorem Same.get {H H1 : Hp} {p : Addr} {o : HO} (s : Same H H1) (e : H p = some o) : H1 p = some o := s p o e
theorem Same.tr {H H1 H2 : Hp} (s : Same H1 H2) (e : Same H H1) : Same H H2 := fun p o h => s p o (e p o h)
theorem Rep.int' {H : Hp} {i : Int} : Rep H (.int i) (.int i) := by simp only [Rep]
theorem Rep.str' {H : Hp} {i : Str} : Rep H (.str i) (.str i) := by simp only [Rep]
theorem Rep.non' {H : Hp} : Rep H .non .non := by simp only [Rep]
theorem Rep.mkT {H : Hp} {p : Addr} {vs : List V} {ds : List L2.D} (h : H p = some (.tup vs)) (r : Reps H ds vs) : Rep H (.tup ds) (.ref p) := by simp only [Rep]; exact ⟨p, vs, rfl, h, r⟩
theorem Rep.mkL {H : Hp} {p : Addr} {vs : List V} {ds : List L2.D} (h : H p = some (.lst vs)) (r : Reps H ds vs) : Rep H (.lst ds) (.ref p) := by simp only [Rep]; exact ⟨p, vs, rfl, h, r⟩
theorem Reps.nil' {H : Hp} : Reps H [] [] := by simp only [Reps]
theorem Reps.cons' {H : Hp} {d : L2.D} {v : V} {ds : List L2.D} {vs : List V} (h : Rep H d v) (r : Reps H ds vs) : Reps H (d :: ds) (v :: vs) := by simp only [Reps]; exact ⟨v, vs, rfl, h, r⟩
theorem Reps.consE {H : Hp} {d : L2.D} {ds : List L2.D} {vs : List V} (h : Reps H (d :: ds) vs) : ∃ v r, vs = v :: r ∧ Rep H d v ∧ Reps H ds r := by simp only [Reps] at h; exact h
theorem Reps.nilE {H : Hp} {vs : List V} (h : Reps H [] vs) : vs = [] := by simp only [Reps] at h; exact h
theorem SqL.same {K : PySem.W.Frag} {H H' : Hp} {a : Addr} {xs : List V} (s : Same H H') (e : SqL K H a xs) : SqL K H' a xs := s.seq e
end L2
namespace L2
open PySem PySem.Spec PyProof.Rows
class RdS (g : Prop) (n : outParam Prop) : Prop where
  imp : n → g
theorem rd_go {g n : Prop} [h : RdS g n] (k : n) : g := h.imp k
class GetS (σ : St) (i : Nat) (v : outParam V) : Prop where
  get : σ[i]? = some (some v)
instance GetS.zero {v : V} {r : St} : GetS (some v :: r) 0 v := ⟨rfl⟩
instance GetS.succ {x : Option V} {r : St} {i : Nat} {v : V} [h : GetS r i v] : GetS (x :: r) (i + 1) v := ⟨by rw [List.getElem?_cons_succ]; exact h.get⟩
class SetS (σ : St) (i : Nat) (v : Option V) (σ' : outParam St) : Prop where
  set : σ.set i v = σ'
instance SetS.zero {x v : Option V} {r : St} : SetS (x :: r) 0 v (v :: r) := ⟨rfl⟩
instance SetS.succ {x v : Option V} {r r' : St} {i : Nat} [h : SetS r i v r'] : SetS (x :: r) (i + 1) v (x :: r') := ⟨by rw [List.set_cons_succ, h.set]⟩
class PickS (ix : List Nat) (σ : St) (σ' : outParam St) : Prop where
  eq : pick ix σ = σ'
instance PickS.nil {σ : St} : PickS [] σ [] := ⟨rfl⟩
instance PickS.cons {i : Nat} {ix : List Nat} {σ σ' : St} {v : V} [g : GetS σ i v] [h : PickS ix σ σ'] : PickS (i :: ix) σ (some v :: σ') := ⟨by
  show ((σ[i]?).join :: pick ix σ) = _
  rw [g.get, h.eq]
  rfl⟩
section
variable {K : PySem.W.Frag} {σ σ' : St} {H : Hp} {D : Ends} {Q : VK} {E : XK} {t u : TS} {te ta tb tc : TE} {c c' : TT} {R : Bool → Hp → Prop} {r r' : R2} {i j : Int} {n : Nat} {v x : V} {a b : Bool} {z y : Str} {P A B : Prop}
instance i1 : RdS (tSeq t u D σ H) (t { D with nx := u D } σ H) := ⟨id⟩
instance i2 {g : TG} : RdS (tAsg te g D σ H) (te σ H fun x H1 => g x σ H1 D.nx) := ⟨id⟩
instance i3 : RdS (tRet te D σ H) (te σ H D.rt) := ⟨id⟩
instance i5 : RdS (tDrop te D σ H) (te σ H fun _ H1 => D.nx σ H1) := ⟨id⟩
instance i6 : RdS (tNext D σ H) (D.nx σ H) := ⟨id⟩
instance i7 : RdS (tIfS c t u D σ H) (c σ H fun b H1 => if b = true then t D σ H1 else u D σ H1) := ⟨id⟩
instance i8 [g : GetS σ n v] : RdS (tVar n σ H Q) (Q v H) := ⟨fun h => ⟨v, g.get, h⟩⟩
instance i9 : RdS (tC v σ H Q) (Q v H) := ⟨id⟩
instance i10 : RdS (tOp r ta tb σ H Q) (ta σ H fun x H1 => tb σ H1 fun y H2 => r x y H2 Q) := ⟨id⟩
instance i11 {r : V → Hp → VK → Prop} : RdS (tUn r ta σ H Q) (ta σ H fun x H1 => r x H1 Q) := ⟨id⟩
instance i12 {g : Int → Int → V} : RdS (rI0 g (.int i) (.int j) H Q) (Q (g i j) H) := ⟨fun h => ⟨i, j, rfl, rfl, h⟩⟩
instance i13 {g : Int → V} : RdS (rU g (.int i) H Q) (Q (g i) H) := ⟨fun h => ⟨i, rfl, h⟩⟩
instance i14 : RdS (rAddP K (.int i) (.int j) H Q) (Q (.int (i + j)) H) := ⟨rd_addI⟩
instance i15 : RdS (rLtP (.int i) (.int j) H Q) (Q (.bl (decide (i < j))) H) := ⟨rd_ltI⟩
instance i16 : RdS (rLtP (.str z) (.str y) H Q) (Q (.bl (decide (z.cps.toList < y.cps.toList))) H) := ⟨rd_ltS⟩
instance i17 : RdS (rLeP (.int i) (.int j) H Q) (Q (.bl (decide (i ≤ j))) H) := ⟨rd_leI⟩
instance i18 : RdS (rLeP (.str z) (.str y) H Q) (Q (.bl (!decide (y.cps.toList < z.cps.toList))) H) := ⟨rd_leS⟩
instance i19 : RdS (rEqD (.int i) (.int j) H Q) (Q (.bl (decide (i = j))) H) := ⟨rd_eqI⟩
instance i20 : RdS (rEqD (.str z) (.str y) H Q) (Q (.bl (decide (z = y))) H) := ⟨rd_eqS⟩
instance i21 : RdS (rEqD (.bl a) (.bl b) H Q) (Q (.bl (a == b)) H) := ⟨rd_eqB⟩
instance i22 : RdS (rNeD (.int i) (.int j) H Q) (Q (.bl (!decide (i = j))) H) := ⟨rd_neI⟩
instance i23 : RdS (rNeD (.str z) (.str y) H Q) (Q (.bl (!decide (z = y))) H) := ⟨rd_neS⟩
instance i24 : RdS (rNeD (.bl a) (.bl b) H Q) (Q (.bl (!(a == b))) H) := ⟨rd_neB⟩
instance i25 : RdS (tTest te σ H R) (te σ H fun x H' => ∃ k, x = .bl k ∧ R k H') := ⟨id⟩
instance i26 : RdS (tB te σ H R) (te σ H fun x H' => ∃ k, x = .bl k ∧ R k H') := ⟨id⟩
instance i27 {F : Bool → Prop} : RdS (∃ c, V.bl a = V.bl c ∧ F c) (F a) := ⟨fun h => ⟨a, rfl, h⟩⟩
instance i28 {F : Int → Prop} : RdS (∃ c, V.int i = V.int c ∧ F c) (F i) := ⟨fun h => ⟨i, rfl, h⟩⟩
instance i29 {F : Str → Prop} : RdS (∃ c, V.str z = V.str c ∧ F c) (F z) := ⟨fun h => ⟨z, rfl, h⟩⟩
instance i30 : RdS (tAnd c c' σ H R) (c σ H fun b H1 => if b = true then c' σ H1 R else R false H1) := ⟨id⟩
instance i31 : RdS (tOr c c' σ H R) (c σ H fun b H1 => if b = true then R true H1 else c' σ H1 R) := ⟨id⟩
instance i32 : RdS (tNot c σ H R) (c σ H fun b H1 => R (!b) H1) := ⟨id⟩
instance i33 : RdS (tAndV ta tb σ H Q) (ta σ H fun x H1 => ∃ c, x = .bl c ∧ if c = true then tb σ H1 Q else Q (.bl false) H1) := ⟨id⟩
instance i38 {sp : Sp} {t : TA} : RdS (tCall sp [] E t σ H Q) (t σ H fun vs H1 => sp vs H1 Q E) := ⟨rd_call⟩
instance i39 {r : List V → Hp → VK → Prop} {t : TA} : RdS (tCB r t σ H Q) (t σ H fun vs H1 => r vs H1 Q) := ⟨id⟩
instance i40 {F : List V → Hp → Prop} : RdS (tNil σ H F) (F [] H) := ⟨id⟩
instance i41 {tr : TA} {F : List V → Hp → Prop} : RdS (tCons ta tr σ H F) (ta σ H fun x H1 => tr σ H1 fun xs H2 => F (x :: xs) H2) := ⟨id⟩
instance i42 {t : TA} : RdS (tTupM t σ H Q) (t σ H fun xs H1 => mkT xs H1 Q) := ⟨id⟩
instance i43 {t : TA} : RdS (tLstM t σ H Q) (t σ H fun xs H1 => mkL xs H1 Q) := ⟨id⟩
instance i45 : RdS (rMin [.int i, .int j] H Q) (Q (.int (min i j)) H) := ⟨rd_min⟩
instance i46 : RdS (rIsP x .non H Q) (Q (.bl (decide (x = .non))) H) := ⟨rd_isN⟩
instance i47 : RdS (rIsP (.bl a) (.bl b) H Q) (Q (.bl (a == b)) H) := ⟨rd_isB⟩
instance i48 : RdS (rIsntP x .non H Q) (Q (.bl (!decide (x = .non))) H) := ⟨rd_isntN⟩
instance i49 : RdS (rIsntP (.bl a) (.bl b) H Q) (Q (.bl (a != b)) H) := ⟨rd_isntB⟩
instance i50 {r : V → Option Int → Option Int → Hp → VK → Prop} {tl th : TO} : RdS (tSl r te tl th σ H Q) (te σ H fun x H1 => tl σ H1 fun l H2 => th σ H2 fun u H3 => r x l u H3 Q) := ⟨id⟩
instance i51 {F : Option Int → Hp → Prop} : RdS (tNoPart σ H F) (F none H) := ⟨id⟩
instance i52 {F : Option Int → Hp → Prop} : RdS (tPart te σ H F) (te σ H fun x H1 => ∃ i, x = .int i ∧ F (some i) H1) := ⟨id⟩
instance i53 : RdS (if true = true then A else B) A := ⟨iteT⟩
instance i54 : RdS (if false = true then A else B) B := ⟨iteF⟩
instance i55 : RdS (if (!true) = true then A else B) B := ⟨iteNT⟩
instance i56 : RdS (if (!false) = true then A else B) A := ⟨iteNF⟩
instance i57 {ix : List Nat} {wi : TI} : RdS (tLC ix wi c te σ H Q) (wi σ H fun J H1 => LcW J ix σ c te Q H1) := ⟨id⟩
instance i58 {wi : TI} {g : TG} : RdS (tFor wi g t D σ H) (wi σ H fun J H1 => ForW J g t D σ H1) := ⟨id⟩
instance i59 {F : St → Hp → Prop} [s : SetS σ n (some v) σ'] : RdS (gName n v σ H F) (F σ' H) := ⟨fun h => by show F (σ.set n (some v)) H; rw [s.set]; exact h⟩
instance i61 {F : It → Hp → Prop} : RdS (iList K te σ H F) (te σ H fun x H1 => ∃ a, x = .ref a ∧ (∃ xs, SqL K H1 a xs) ∧ F (Itl K a) H1) := ⟨id⟩
instance i63 {t : TA} {F : It → Hp → Prop} : RdS (iRng1 t σ H F) (t σ H fun vs H1 => ∃ j : Int, vs = [.int j] ∧ -(2 ^ 62) ≤ j ∧ j < 2 ^ 62 ∧ F (Itr 0 j.toNat) H1) := ⟨id⟩
instance i65 {F : St → Hp → Prop} : RdS (gNil [] σ H F) (F σ H) := ⟨fun h => ⟨rfl, h⟩⟩
instance i66 {g : TG} {gs : TGs} {vs : List V} {F : St → Hp → Prop} : RdS (gCons g gs (v :: vs) σ H F) (g v σ H fun σ' H' => gs vs σ' H' F) := ⟨fun h => ⟨v, vs, rfl, h⟩⟩
instance i68 : RdS (tYes σ H R) (R true H) := ⟨id⟩
class KitS (n T : String) (b : outParam Bool) : Prop where
  eq : ∀ K : PySem.W.Frag, PySem.W.kitOne K (.type n) (.type T) = some b
instance : KitS "NoneType" "str" false := ⟨kit_non_str⟩
instance : KitS "NoneType" "int" false := ⟨kit_non_int⟩
instance : KitS "NoneType" "bool" false := ⟨kit_non_bool⟩
instance : KitS "NoneType" "tuple" false := ⟨kit_non_tuple⟩
instance : KitS "NoneType" "list" false := ⟨kit_non_list⟩
instance : KitS "NoneType" "dict" false := ⟨kit_non_dict⟩
instance : KitS "bool" "str" false := ⟨kit_bl_str⟩
instance : KitS "bool" "int" true := ⟨kit_bl_int⟩
instance : KitS "bool" "bool" true := ⟨kit_bl_bool⟩
instance : KitS "bool" "tuple" false := ⟨kit_bl_tuple⟩
instance : KitS "bool" "list" false := ⟨kit_bl_list⟩
instance : KitS "bool" "dict" false := ⟨kit_bl_dict⟩
instance : KitS "int" "str" false := ⟨kit_int_str⟩
instance : KitS "int" "int" true := ⟨kit_int_int⟩
instance : KitS "int" "bool" false := ⟨kit_int_bool⟩
instance : KitS "int" "tuple" false := ⟨kit_int_tuple⟩
instance : KitS "int" "list" false := ⟨kit_int_list⟩
instance : KitS "int" "dict" false := ⟨kit_int_dict⟩
instance : KitS "str" "str" true := ⟨kit_str_str⟩
instance : KitS "str" "int" false := ⟨kit_str_int⟩
instance : KitS "str" "bool" false := ⟨kit_str_bool⟩
instance : KitS "str" "tuple" false := ⟨kit_str_tuple⟩
instance : KitS "str" "list" false := ⟨kit_str_list⟩
instance : KitS "str" "dict" false := ⟨kit_str_dict⟩
instance : KitS "list" "str" false := ⟨kit_lst_str⟩
instance : KitS "list" "int" false := ⟨kit_lst_int⟩
instance : KitS "list" "bool" false := ⟨kit_lst_bool⟩
instance : KitS "list" "tuple" false := ⟨kit_lst_tuple⟩
instance : KitS "list" "list" true := ⟨kit_lst_list⟩
instance : KitS "list" "dict" false := ⟨kit_lst_dict⟩
instance : KitS "tuple" "str" false := ⟨kit_tup_str⟩
instance : KitS "tuple" "int" false := ⟨kit_tup_int⟩
instance : KitS "tuple" "bool" false := ⟨kit_tup_bool⟩
instance : KitS "tuple" "tuple" true := ⟨kit_tup_tuple⟩
instance : KitS "tuple" "list" false := ⟨kit_tup_list⟩
instance : KitS "tuple" "dict" false := ⟨kit_tup_dict⟩
instance : KitS "dict" "str" false := ⟨kit_dK_str⟩
instance : KitS "dict" "int" false := ⟨kit_dK_int⟩
instance : KitS "dict" "bool" false := ⟨kit_dK_bool⟩
instance : KitS "dict" "tuple" false := ⟨kit_dK_tuple⟩
instance : KitS "dict" "list" false := ⟨kit_dK_list⟩
instance : KitS "dict" "dict" true := ⟨kit_dK_dict⟩
instance i70 {T : String} [k : KitS "NoneType" T b] : RdS (rIs K [.non, .ty T] H Q) (Q (.bl b) H) := ⟨rd_is .non (k.eq K)⟩
instance i71 {T : String} [k : KitS "bool" T b] : RdS (rIs K [.bl a, .ty T] H Q) (Q (.bl b) H) := ⟨rd_is (.bl a) (k.eq K)⟩
instance i72 {T : String} [k : KitS "int" T b] : RdS (rIs K [.int i, .ty T] H Q) (Q (.bl b) H) := ⟨rd_is (.int i) (k.eq K)⟩
instance i73 {T : String} [k : KitS "str" T b] : RdS (rIs K [.str z, .ty T] H Q) (Q (.bl b) H) := ⟨rd_is (.str z) (k.eq K)⟩
theorem rd_isL {T : String} [k : KitS "list" T b] {p : Addr} {xs : List V} (e : H p = some (.lst xs)) (h : Q (.bl b) H) : rIs K [.ref p, .ty T] H Q := rd_is (.lst e) (k.eq K) h
end
end L2
namespace L2
open PySem PySem.Spec PyProof.Rows PySem.SeqAt
open AutoSeq1 (wpAny_loadPart')
section
variable {X : Cx} {K : PySem.W.Frag} {H : Hp} {Q : VK}
end
end L2
namespace L2
open PySem PySem.Spec PyProof.Rows
structure BE (X : Cx) (e : Expr) (t : TE) : Prop where
  h : PE X e t
structure BT (X : Cx) (e : Expr) (t : TT) : Prop where
  h : PT X e t
structure BW (X : Cx) (e : Expr) (t : TT) : Prop where
  h : PW X e t
structure BA (X : Cx) (es : List Expr) (t : TA) : Prop where
  h : PA X es t
structure BS (X : Cx) (s : Stmt) (t : TS) : Prop where
  h : PS X s t
structure BSs (X : Cx) (s : List Stmt) (t : TS) : Prop where
  h : PSs X s t
structure BG (X : Cx) (e : Expr) (t : TG) : Prop where
  h : PG X e t
structure BGs (X : Cx) (e : List Expr) (t : TGs) : Prop where
  h : PGs X e t
structure BI (X : Cx) (tg e : Expr) (t : TI) : Prop where
  h : PI X tg e t
structure BO (X : Cx) (e : Option Expr) (t : TO) : Prop where
  h : PO X e t
structure BF (X : Cx) (es : List Expr) (t : TT) : Prop where
  h : PIfs X es t
section
variable {X : Cx} {a b c e o : Expr} {es : List Expr} {ta tb tc te : TE} {tA tB' : TT} {t : TA} {pos p p2 : Pos} {st : Stmt} {rest xs ys : List Stmt} {s u : TS}
theorem bv (i : Nat) {x : Str} (hN : X.N[i]? = some x := by rfl) (hv : Vis X.env.scope x := by first | exact Or.inl rfl | exact Or.inr (Or.inl rfl) | exact Or.inr (Or.inr rfl)) (hd : (x == ("__debug__" : Str)) = false := by decide)
    (hcd : (x == ("__classdict__" : Str)) = false := by decide) : BE X (.Name x pos) (tVar i) := ⟨pv i hN hv hd hcd⟩
theorem b_int {i j} : BE X (.Constant (.int i) j pos) (tC (.int i)) := ⟨pe_int⟩
theorem b_bl {i j} : BE X (.Constant (.bool i) j pos) (tC (.bl i)) := ⟨pe_bl⟩
theorem b_non {j} : BE X (.Constant .none j pos) (tC .non) := ⟨pe_non⟩
theorem b_str {x j} : BE X (.Constant (.str x) j pos) (tC (.str x)) := ⟨pe_str⟩
theorem b_gl {x : Str} {v : V} (h : ∃ u, X.mg x = some u ∧ RelV v u) (hg : Gl X x := by rfl) (hd : (x == ("__debug__" : Str)) = false := by decide) : BE X (.Name x pos) (tC v) := ⟨pe_gl h hg hd⟩
theorem b_ty {x : Str} {T : String} (hm : X.mg x = none) (hv : bootBuiltins x = some (.type T)) (hg : Gl X x := by rfl) (hn : x ≠ "__name__" := by decide) (hd : (x == ("__debug__" : Str)) = false := by decide) : BE X (.Name x pos) (tC (.ty T)) := ⟨pe_ty hm hv hg hn hd⟩
theorem b_op {op : Operator} {r : R2} (ho : OpR X (binaryOp op) r) (ha : BE X a ta) (hb : BE X b tb) : BE X (.BinOp a op b pos) (tOp r ta tb) := ⟨pe_op ho ha.h hb.h⟩
theorem b_un {op : UnaryOp} {r : V → Hp → VK → Prop} (ho : UnR X (unaryOp op) r) (ha : BE X a ta) : BE X (.UnaryOp op a pos) (tUn r ta) := ⟨pe_un ho ha.h⟩
theorem b_cmp {op : CmpOp} {r : R2} (ho : OpR X (compareOp op) r) (ha : BE X a ta) (hb : BE X b tb) (hm : behindInMarks op b = false) : BE X (.Compare a [op] [b] pos) (tOp r ta tb) := ⟨pe_cmpR ho ha.h hb.h hm⟩
theorem b_one {op} (h : BE X a ta) : BE X (.BoolOp op [a] pos) ta := ⟨pe_one h.h⟩
theorem b_and (ha : BE X a ta) (hb : BE X (.BoolOp .And (b :: es) pos) tb) : BE X (.BoolOp .And (a :: b :: es) pos) (tAndV ta tb) := ⟨pe_and ha.h hb.h⟩
theorem ba_nil : BA X [] tNil := ⟨pa_nil⟩
theorem ba_c (ha : BE X e te) (hr : BA X es t) (h : isStar e = false) : BA X (e :: es) (tCons te t) := ⟨pa_c ha.h hr.h h⟩
theorem b_lst (h : BA X es t) : BE X (.List es pos) (tLstM t) := ⟨pe_lstM h.h⟩
theorem b_tup {x1} (h : BA X es t) : BE X (.Tuple es x1 pos) (tTupM t) := ⟨pe_tupM h.h⟩
theorem bo_none : BO X none tNoPart := ⟨po_none⟩
theorem bo_some (h : BE X e te) : BO X (some e) (tPart te) := ⟨po_some h.h⟩
theorem b_slice {lo hi : Option Expr} {tl th : TO} {r : V → Option Int → Option Int → Hp → VK → Prop} (hr : SlR X r) (he : BE X e te) (hl : BO X lo tl) (hu : BO X hi th) : BE X (.Subscript e (.Slice lo hi none p2) pos) (tSl r te tl th) := ⟨pe_slice hr he.h hl.h hu.h⟩
theorem b_ix {r : R2} (hr : IxR X r) (ha : BE X a ta) (hb : BE X b tb) (hs : PlainIx b) : BE X (.Subscript a b pos) (tOp r ta tb) := ⟨pe_ix hr ha.h hb.h hs⟩
theorem b_f {x : Str} {sf : Stmt} {ps : List Str} {f : Addr} {fd : FuncData} {k : Nat} {sp : Sp} (N : Fn X.K X.mg x sf ps f fd) (G : FnOk X.prog X.w X.K X.mg X.base CX0 k f fd ps sp) (hr : Room k X.A) (ha : BA X (e :: es) t) (hg : Gl X x := by rfl) (hdb : (x == ("__debug__" : Str)) = false := by decide) (h1 : isStar e = false := by rfl) (h2 : noStar es = true := by rfl) :
    BE X (.Call (.Name x p) (e :: es) [] pos) (tCall sp [] E0 t) := ⟨pe_f N G hr ha.h hg hdb h1 h2⟩
theorem b_b {x : Str} {id : String} {r : List V → Hp → VK → Prop} (hc : CallR X (.builtin id) r) (hm : X.mg x = none) (hv : bootBuiltins x = some (.builtin id)) (ha : BA X (e :: es) t) (hg : Gl X x := by rfl) (hn : x ≠ "__name__" := by decide) (hdb : (x == ("__debug__" : Str)) = false := by decide) (h1 : isStar e = false := by rfl) (h2 : noStar es = true := by rfl) :
    BE X (.Call (.Name x p) (e :: es) [] pos) (tCB r t) := ⟨pe_b hc hm hv ha.h hg hn hdb h1 h2⟩
theorem b_t {x : Str} {T : String} {r : List V → Hp → VK → Prop} (hc : CallR X (.type T) r) (hm : X.mg x = none) (hv : bootBuiltins x = some (.type T)) (ha : BA X (e :: es) t) (hg : Gl X x := by rfl) (hn : x ≠ "__name__" := by decide) (hdb : (x == ("__debug__" : Str)) = false := by decide) (h1 : isStar e = false := by rfl) (h2 : noStar es = true := by rfl) :
    BE X (.Call (.Name x p) (e :: es) [] pos) (tCB r t) := ⟨pe_t hc hm hv ha.h hg hn hdb h1 h2⟩
theorem bi_r1 {tg : Expr} (hm : X.mg "range" = none) (ha : BA X [a] t) (hg : Gl X "range" := by rfl) (h1 : isStar a = false := by rfl) : BI X tg (.Call (.Name "range" p) [a] [] pos) (iRng1 t) := ⟨pi_r1 hm ha.h hg h1⟩
theorem bi_list {tg : Expr} (h : BE X e te) : BI X tg e (iList X.K te) := ⟨pi_list h.h⟩
theorem bf_nil : BF X [] tYes := ⟨pifs_nil⟩
theorem bf_one (h : BT X c tA) : BF X [c] tA := ⟨pifs_one h.h⟩
theorem b_lc {elt iter : Expr} {ifs : List Expr} {px : Pos} {scope osc : Scope} {x : Str} {fv : List Str} {ix : List Nat} {wi : TI} {tt : TT} (hc : X.calm = true) (S₀ : LcScope scope x fv osc) (hix : ix.map (fun i => X.N[i]?) = fv.map some) (hi : BI X (.Name x px) iter wi)
    (ht : ∀ (C : Addr) (s₀ : Shared) (H₀ : Hp) (ex : List Addr), BF (X.comp scope (x :: fv) C s₀ H₀ ex) ifs tt) (he : ∀ (C : Addr) (s₀ : Shared) (H₀ : Hp) (ex : List Addr), BE (X.comp scope (x :: fv) C s₀ H₀ ex) elt te)
    (hosc : X.env.scope = osc := by rfl) (hs : ∀ x, foldedSetIterable iter X.env x = pure x := by intro _; rfl) : BE X (.ListComp elt [⟨.Name x px, iter, ifs, 0⟩] scope pos) (tLC ix wi tt te) :=
  ⟨pe_lc hc S₀ hix hi.h (fun C s₀ H₀ ex => (ht C s₀ H₀ ex).h) (fun C s₀ H₀ ex => (he C s₀ H₀ ex).h) hosc hs⟩
theorem bt_cmp {op : CmpOp} {r : R2} (ho : OpR X (compareOp op) r) (ha : BE X a ta) (hb : BE X b tb) (hm : behindInMarks op b = false) : BT X (.Compare a [op] [b] pos) (tTest (tOp r ta tb)) := ⟨pt_cmpR ho ha.h hb.h hm⟩
theorem bt_val (h : BE X e te) (he : ∀ whole, isTrue e X.env whole = (do let v ← whole; standAt e.pos; holding [v] (truthy v))) : BT X e (tB te) := ⟨pt_val h.h he⟩
theorem bt_not (h : BT X a tA) : BT X (.UnaryOp .Not a pos) (tNot tA) := ⟨pt_not h.h⟩
theorem bt_w (h : BW X e tA) : BT X e tA := ⟨h.h.pt⟩
theorem bw_and1 (h : BT X a tA) : BW X (.BoolOp .And [a] pos) tA := ⟨pw_and1 h.h⟩
theorem bw_or1 (h : BT X a tA) : BW X (.BoolOp .Or [a] pos) tA := ⟨pw_or1 h.h⟩
theorem bw_and (ha : BT X a tA) (hb : BW X (.BoolOp .And (b :: es) pos) tB') : BW X (.BoolOp .And (a :: b :: es) pos) (tAnd tA tB') := ⟨pw_and ha.h hb.h⟩
theorem bw_or (ha : BT X a tA) (hb : BW X (.BoolOp .Or (b :: es) pos) tB') : BW X (.BoolOp .Or (a :: b :: es) pos) (tOr tA tB') := ⟨pw_or ha.h hb.h⟩
theorem bss_nil : BSs X [] tNext := ⟨pss_nil⟩
theorem bss_cons (h1 : BS X st s) (h2 : BSs X rest u) : BSs X (st :: rest) (tSeq s u) := ⟨pss_cons h1.h h2.h⟩
theorem bss_one (h : BS X st s) : BSs X [st] s := ⟨pss_one h.h⟩
theorem bs_expr (h : BE X e te) (hs : swapsWith e none pos.line X.env = pure false := by rfl) : BS X (.Expr e pos) (tDrop te) := ⟨ps_expr h.h hs⟩
theorem bs_ret (h : BE X e te) : BS X (.Return (some e) pos) (tRet te) := ⟨ps_ret h.h⟩
theorem bs_if (hc : BT X c tA) (ha : BSs X xs s) (hb : BSs X ys u) : BS X (.If c xs ys pos) (tIfS tA s u) := ⟨ps_if hc.h ha.h hb.h⟩
theorem bs_set {i : Nat} {x : Str} {pos' : Pos} (hN : X.N.Nodup) (hi : X.N[i]? = some x) (hx : Loc X.env.scope x) (he : BE X e te) (hs : swapsWith e (some (.Name x pos')) pos.line X.env = pure false := by rfl) (hf : X.fn x = true ∨ X.env.scope.names.lookup x = some .local := by first | exact .inl rfl | exact .inr rfl | assumption) :
    BS X (.Assign [.Name x pos'] e pos) (tAsg te (gName i)) := ⟨ps_set hN hi hx he.h hs hf⟩
theorem bg_name {i : Nat} {x : Str} (hN : X.N.Nodup) (hi : X.N[i]? = some x) (hx : Loc X.env.scope x) (hf : X.fn x = true ∨ X.env.scope.names.lookup x = some .local := by first | exact .inl rfl | exact .inr rfl | assumption) : BG X (.Name x pos) (gName i) := ⟨pg_name hN hi hx hf⟩
theorem bgs_nil : BGs X [] gNil := ⟨pgs_nil⟩
theorem bgs_cons {g : TG} {gs : TGs} (h1 : BG X e g) (h2 : BGs X es gs) (hs : (assignEach (e :: es) X.env).map (·.2) = assign e X.env :: (assignEach es X.env).map (·.2) := by rfl) : BGs X (e :: es) (gCons g gs) := ⟨pgs_cons h1.h h2.h hs⟩
theorem bg_tup {k : Nat} {gs : TGs} {n : Nat} (hc : X.calm = true) (h : BGs X es gs) (hn : (assignEach es X.env).length = n := by rfl) (hst : (assignEach es X.env).findIdx? (·.1) = none := by rfl) : BG X (.Tuple es k pos) (gTup X.K n gs) := ⟨pg_tup hc h.h hn hst⟩
theorem bs_asg {tg : Expr} {g : TG} (he : BE X e te) (hg : BG X tg g) (hs : swapsWithSole [tg] e pos.line X.env = pure false := by rfl) (hw : swappedStores [tg] e X.env = pure none := by rfl) (h1 : (assignEach [tg] X.env).map (·.2) = [assign tg X.env] := by rfl) : BS X (.Assign [tg] e pos) (tAsg te g) := ⟨ps_asg he.h hg.h hs hw h1⟩
theorem bs_for {tg iter : Expr} {wi : TI} {g : TG} (hp : PassesOwn (model X.prog X.w) X.A X.env X.xe) (hc : X.calm = true) (hi : BI X tg iter wi) (hg : BG X tg g) (hb : BSs X xs s) (hs : ∀ x, foldedSetIterable iter X.env x = pure x := by intro _; rfl) : BS X (.For tg iter xs [] pos) (tFor wi g s) := ⟨ps_for hp hc hi.h hg.h hb.h hs⟩
theorem bs_while (hp : PassesOwn (model X.prog X.w) X.A X.env X.xe) (hc : BT X c tA) (hb : BSs X xs s) : BS X (.While c xs [] pos) (tWhile tA s) := ⟨ps_while hp hc.h hb.h⟩
end
instance k0 {A B : Prop} : RdS (if (true == true) = true then A else B) A := ⟨fun h => by simpa using h⟩
instance k1 {A B : Prop} : RdS (if (true != true) = true then A else B) B := ⟨fun h => by simpa using h⟩
instance k2 {A B : Prop} : RdS (if (true == false) = true then A else B) B := ⟨fun h => by simpa using h⟩
instance k3 {A B : Prop} : RdS (if (true != false) = true then A else B) A := ⟨fun h => by simpa using h⟩
instance k4 {A B : Prop} : RdS (if (false == true) = true then A else B) B := ⟨fun h => by simpa using h⟩
instance k5 {A B : Prop} : RdS (if (false != true) = true then A else B) A := ⟨fun h => by simpa using h⟩
instance k6 {A B : Prop} : RdS (if (false == false) = true then A else B) A := ⟨fun h => by simpa using h⟩
instance k7 {A B : Prop} : RdS (if (false != false) = true then A else B) B := ⟨fun h => by simpa using h⟩
theorem rd_pick {K : PySem.W.Frag} {H : Hp} {Q : VK} {a : Addr} {xs : List V} {i : Int} (e : SqL K H a xs) (h0 : 0 ≤ i) (h1 : i < xs.length) (h : ∀ v ∈ xs, Q v H) : rIx K (.ref a) (.int i) H Q := by
  obtain ⟨j, rfl⟩ : ∃ j : Nat, i = j := ⟨i.toNat, by omega⟩
  have hj : j < xs.length := by omega
  exact rd_ixL e (atI_nat (List.getElem?_eq_getElem hj)) (h _ (List.getElem_mem hj))
section
variable {P : Program} {w : World} {K : PySem.W.Frag} {mg : Str → Option Value} {base : Heap}
theorem Fun.okB {x qual : Str} {st : Stmt} {f : Addr} {fd : FuncData} {N ps : List Str} {k : Nat} {sp : Sp} (F : Fun K x qual st f fd) (S : FnScope N ps (defScope st)) (len : ∀ vs H Q E, sp vs H Q E → vs.length = ps.length)
    (hbody : ∀ (cdv : Value) (A : Around) (outer : List Env) (s : Shared) (H : Hp) (vs : List V) (Q : VK) (E : XK), Room k (A.deeper (envOfC qual (defScope st) s.heap.objs.size f cdv)) → sp vs H Q E →
      ∃ t, BSs (cxOf CX0 P w K mg base N qual (defScope st) f cdv A outer s H E).nox (defBody st) t ∧ t { nx := fun _ H' => Q .non H', rt := Q } (start N vs) H) : FnOk P w K mg base CX0 (k + 1) f fd ps sp :=
  F.ok S len fun cdv A outer s H vs Q E hr hs => let ⟨t, h, q⟩ := hbody cdv A outer s H vs Q E hr hs; ⟨t, h.h, q⟩
end
end L2
namespace L2
open PySem PySem.Spec PyProof.Rows
section
variable {X : Cx} {K : PySem.W.Frag} {σ : St} {H : Hp} {Q : VK} {o e : Expr} {es : List Expr} {to te : TE} {t : TA} {apos cpos pos p2 : Pos}
def insL {α : Type} (k : Nat) (y : α) (xs : List α) : List α := xs.take k ++ y :: xs.drop k
def rInsert : V → List V → Hp → VK → Prop := fun x vs H Q => ∃ l xs i y, x = .ref l ∧ vs = [.int i, y] ∧ H l = some (.lst xs) ∧ 0 ≤ i ∧ i ≤ xs.length ∧ xs.length < sizeLine ∧ Q .non (upd H l (.lst (insL i.toNat y xs)))
theorem mt_insert : MtM X "list.insert" rInsert := by
  intro pins s σ H x vs v us Q I rx rv h
  obtain ⟨l, xs, i, y, rfl, rfl, hH, hi, hk, hz, q⟩ := h
  cases (show v = Value.ref l from rx)
  obtain ⟨u, u', rfl, ⟨tk, ru⟩, ru'⟩ := rv.two
  subst ru
  obtain ⟨z, its, n, r, hl, e⟩ := I.lstM hH
  have hs : sizeLine = 16777216 := sizeLine_eq
  have hfit : ¬ (!Builtin.List.listFitsIndex i) = true := by
    rw [fitsIndex_both (by omega) (by omega)]
    exact Bool.false_ne_true
  refine call_meets F.slot_list_insert ⟨_, e, rfl⟩ F.entry_list_insert (F.args_list_insert_3 _ _ _) (AutoSeq1.list_insert_list_int_val_1 l its.toArray n i tk u' hfit (by rw [List.size_toArray]; omega)) ⟨e, ?_⟩
  refine ⟨.non, _, I.lset (its' := its.take i.toNat ++ u' :: its.drop i.toNat) (ys := insL i.toNat y xs) hH e ?_ ((r.take i.toNat).append (.cons ru' (r.drop i.toNat))) ?_, rfl, q⟩
  · show ((its.toArray.extract 0 (if i < 0 then (i + (its.toArray.size : Int)).toNat else min i.toNat its.toArray.size)).push u' ++ its.toArray.extract (if i < 0 then (i + (its.toArray.size : Int)).toNat else min i.toNat its.toArray.size)) = _
    rw [if_neg (by omega), show min i.toNat its.toArray.size = i.toNat by rw [List.size_toArray]; omega]
    apply Array.ext'
    simp
    apply List.take_of_length_le
    rw [List.length_drop]
    omega
  · unfold insL
    rw [List.length_append, List.length_cons, List.length_take, List.length_drop]
    omega
theorem bm_insert (ho : BE X o to) (ha : BA X (e :: es) t) (hbase : attributeBase o "insert" X.env (eval o X.env) = eval o X.env := by rfl)
    (hfew : ((backTo cpos (starEach (e :: es) X.env)).all (fun x => !x.1) && (backToKw cpos (keywordEach [] X.env)).all (fun x => x.1.isSome)
      && decide ((e :: es).length + ([] : List Keyword).length + (if ([] : List Keyword).isEmpty then 0 else 1) < 30)) = true := by rfl)
    (hline : (apos.endLine == cpos.line) = true := by rfl) (h1 : isStar e = false := by rfl) (h2 : noStar es = true := by rfl) :
    BE X (.Call (.Attribute o "insert" apos) (e :: es) [] cpos) (tBM X.K "list" rInsert to t) :=
  ⟨pe_bm F.plainAttrs_list F.slot_list_insert F.type_list_insert mt_insert ho.h ha.h hbase hfew hline (star_cons h1) (star_any h2)⟩
theorem bm_append (ho : BE X o to) (ha : BA X (e :: es) t) (hbase : attributeBase o "append" X.env (eval o X.env) = eval o X.env := by rfl)
    (hfew : ((backTo cpos (starEach (e :: es) X.env)).all (fun x => !x.1) && (backToKw cpos (keywordEach [] X.env)).all (fun x => x.1.isSome)
      && decide ((e :: es).length + ([] : List Keyword).length + (if ([] : List Keyword).isEmpty then 0 else 1) < 30)) = true := by rfl)
    (hline : (apos.endLine == cpos.line) = true := by rfl) (h1 : isStar e = false := by rfl) (h2 : noStar es = true := by rfl) :
    BE X (.Call (.Attribute o "append" apos) (e :: es) [] cpos) (tBM X.K "list" rAppend to t) :=
  ⟨pe_bm F.plainAttrs_list F.slot_list_append F.type_list_append mt_append ho.h ha.h hbase hfew hline (star_cons h1) (star_any h2)⟩
instance j1 {T : String} {r : V → List V → Hp → VK → Prop} : RdS (tBM K T r to t σ H Q) (to σ H fun x H1 => tyV K T x H1 ∧ t σ H1 fun xs H2 => r x xs H2 Q) := ⟨id⟩
theorem rd_bmL {p : Addr} {xs : List V} {P : Prop} (e : H p = some (.lst xs)) (h : P) : tyV K "list" (.ref p) H ∧ P := ⟨.inl ⟨rfl, _, SqL.of e⟩, h⟩
theorem rd_append {l : Addr} {xs : List V} {y : V} (e : H l = some (.lst xs)) (hz : xs.length < sizeLine) (h : Q .non (upd H l (.lst (xs ++ [y])))) : rAppend (.ref l) [y] H Q := ⟨l, xs, y, rfl, rfl, e, hz, h⟩
theorem rd_insert {l : Addr} {xs : List V} {i : Int} {y : V} (e : H l = some (.lst xs)) (hi : 0 ≤ i) (hk : i ≤ xs.length) (hz : xs.length < sizeLine) (h : Q .non (upd H l (.lst (insL i.toNat y xs)))) : rInsert (.ref l) [.int i, y] H Q := ⟨l, xs, i, y, rfl, rfl, e, hi, hk, hz, h⟩
instance j3 {A B : Prop} {b : Bool} : RdS (if (!(b == b)) = true then A else B) B := ⟨fun h => by simpa using h⟩
instance GetS.pick {ix : List Nat} {σ σ' : St} {i : Nat} {v : V} [p : PickS ix σ σ'] [g : GetS σ' i v] : GetS (pick ix σ) i v := ⟨by rw [p.eq]; exact g.get⟩
end
instance n0 {A B : Prop}  : RdS (if decide ((.non : V) = .non) = true then A else B) A := ⟨fun h => by simpa using h⟩
instance n1 {A B : Prop}  : RdS (if (!decide ((.non : V) = .non)) = true then A else B) B := ⟨fun h => by simpa using h⟩
instance n2 {A B : Prop} {p : Addr} : RdS (if decide (((.ref p) : V) = .non) = true then A else B) B := ⟨fun h => by simpa using h⟩
instance n3 {A B : Prop} {p : Addr} : RdS (if (!decide (((.ref p) : V) = .non)) = true then A else B) A := ⟨fun h => by simpa using h⟩
instance n4 {A B : Prop} {i : Int} : RdS (if decide (((.int i) : V) = .non) = true then A else B) B := ⟨fun h => by simpa using h⟩
instance n5 {A B : Prop} {i : Int} : RdS (if (!decide (((.int i) : V) = .non)) = true then A else B) A := ⟨fun h => by simpa using h⟩
instance n6 {A B : Prop} {z : Str} : RdS (if decide (((.str z) : V) = .non) = true then A else B) B := ⟨fun h => by simpa using h⟩
instance n7 {A B : Prop} {z : Str} : RdS (if (!decide (((.str z) : V) = .non)) = true then A else B) A := ⟨fun h => by simpa using h⟩
instance n8 {A B : Prop} {b : Bool} : RdS (if decide (((.bl b) : V) = .non) = true then A else B) B := ⟨fun h => by simpa using h⟩
instance n9 {A B : Prop} {b : Bool} : RdS (if (!decide (((.bl b) : V) = .non)) = true then A else B) A := ⟨fun h => by simpa using h⟩
section
variable {X : Cx} {K : PySem.W.Frag}
theorem o_addK (h : X.K = K) : OpR X (binaryOp .Add) (rAddP K) := h ▸ o_add
theorem ix_seqK (h : X.K = K) : IxR X (rIx K) := h ▸ ix_seq
theorem s_anyK (h : X.K = K) : SlR X (rSlP K) := h ▸ s_any
end
abbrev Ent := Str × Int × L2.D
def entD (e : Ent) : L2.D := .tup [.str e.1, .int e.2.1, e.2.2]
theorem Reps.at {H : Hp} {α : Type} {f : α → L2.D} : ∀ {es : List α} {vs : List V} {j : Nat} {v : V}, Reps H (es.map f) vs → vs[j]? = some v → ∃ e, es[j]? = some e ∧ Rep H (f e) v
  | [], vs, j, v, h, e => by
    rw [List.map_nil] at h
    rw [h.nilE] at e
    simp at e
  | x :: es, vs, j, v, h, e => by
    rw [List.map_cons] at h
    obtain ⟨u, r, rfl, h1, h2⟩ := h.consE
    cases j with
    | zero =>
      simp at e
      subst e
      exact ⟨x, rfl, h1⟩
    | succ j =>
      obtain ⟨y, e1, e2⟩ := Reps.at (es := es) (j := j) h2 (by simpa using e)
      exact ⟨y, by simpa using e1, e2⟩
mutual
def noL : L2.D → Bool
  | .lst _ => false
  | .dct => false
  | .tup ds => noLs ds
  | _ => true
def noLs : List L2.D → Bool
  | [] => true
  | d :: ds => noL d && noLs ds
end
def Tups (H H' : Hp) : Prop := ∀ b xs, H b = some (.tup xs) → H' b = some (.tup xs)
mutual
theorem Rep.stay {H H' : Hp} (s : Tups H H') : ∀ {d : L2.D} {v : V}, noL d = true → Rep H d v → Rep H' d v
  | .non, v, _, h => by simp only [Rep] at h ⊢; exact h
  | .bl b, v, _, h => by simp only [Rep] at h ⊢; exact h
  | .int b, v, _, h => by simp only [Rep] at h ⊢; exact h
  | .str b, v, _, h => by simp only [Rep] at h ⊢; exact h
  | .lst ds, v, n, h => by simp only [noL] at n; cases n
  | .dct, v, n, h => by simp only [noL] at n; cases n
  | .tup ds, v, n, h => by
    simp only [noL] at n
    simp only [Rep] at h ⊢
    obtain ⟨a, vs, e, h1, h2⟩ := h
    exact ⟨a, vs, e, s _ _ h1, Reps.stay s n h2⟩
theorem Reps.stay {H H' : Hp} (s : Tups H H') : ∀ {ds : List L2.D} {vs : List V}, noLs ds = true → Reps H ds vs → Reps H' ds vs
  | [], vs, _, h => by simp only [Reps] at h ⊢; exact h
  | d :: ds, vs, n, h => by
    simp only [noLs, Bool.and_eq_true] at n
    simp only [Reps] at h ⊢
    obtain ⟨v, r, e, h1, h2⟩ := h
    exact ⟨v, r, e, Rep.stay s n.1 h1, Reps.stay s n.2 h2⟩
end
theorem same_updL {H H1 : Hp} {l : Addr} {o : HO} (s : Same H H1) (h : H l = none) : Same H (upd H1 l o) := fun b u e => by
  rw [upd_ne (ne_of_none e h)]
  exact s b u e
theorem Reps.take {H : Hp} : ∀ {ds : List L2.D} {vs : List V} (n : Nat), Reps H ds vs → Reps H (ds.take n) (vs.take n)
  | ds, vs, 0, _ => by rw [List.take_zero, List.take_zero]; exact Reps.nil'
  | [], vs, n + 1, h => by rw [h.nilE]; exact Reps.nil'
  | d :: ds, vs, n + 1, h => by
    obtain ⟨v, r, rfl, h1, h2⟩ := h.consE
    exact Reps.cons' h1 (Reps.take n h2)
theorem Reps.drop {H : Hp} : ∀ {ds : List L2.D} {vs : List V} (n : Nat), Reps H ds vs → Reps H (ds.drop n) (vs.drop n)
  | ds, vs, 0, h => h
  | [], vs, n + 1, h => by rw [h.nilE]; exact Reps.nil'
  | d :: ds, vs, n + 1, h => by
    obtain ⟨v, r, rfl, h1, h2⟩ := h.consE
    exact Reps.drop n h2
theorem Reps.append {H : Hp} : ∀ {ds es : List L2.D} {vs us : List V}, Reps H ds vs → Reps H es us → Reps H (ds ++ es) (vs ++ us)
  | [], es, vs, us, h, h' => by rw [h.nilE]; exact h'
  | d :: ds, es, vs, us, h, h' => by
    obtain ⟨v, r, rfl, h1, h2⟩ := h.consE
    exact Reps.cons' h1 (Reps.append h2 h')
theorem Reps.ins {H : Hp} {ds : List L2.D} {vs : List V} {d : L2.D} {v : V} (k : Nat) (h : Reps H ds vs) (h1 : Rep H d v) : Reps H (insL k d ds) (insL k v vs) := (h.take k).append (Reps.cons' h1 (h.drop k))
theorem Reps.reverse {H : Hp} : ∀ {ds : List L2.D} {vs : List V}, Reps H ds vs → Reps H ds.reverse vs.reverse
  | [], vs, h => by rw [h.nilE]; exact Reps.nil'
  | d :: ds, vs, h => by
    obtain ⟨v, r, rfl, h1, h2⟩ := h.consE
    rw [List.reverse_cons, List.reverse_cons]
    exact (Reps.reverse h2).append (Reps.cons' h1 Reps.nil')
end L2
namespace L2
open PySem PySem.Spec PyProof.Rows
section
variable {X : Cx} {K : PySem.W.Frag} {σ : St} {H : Hp} {Q : VK} {o e : Expr} {es : List Expr} {to te : TE} {t : TA} {apos cpos pos p2 : Pos}
def rJoin (K : PySem.W.Frag) : V → List V → Hp → VK → Prop := fun x vs H Q => ∃ z p ys, x = .str z ∧ vs = [.ref p] ∧ SqL K H p (ys.map V.str) ∧ (ys.map (·.length)).sum + ys.length * z.length ≤ 16777216 ∧ Q (.str (Txt.join z ys)) H
theorem strsAre_of : ∀ {ys : List Str} {us : List Value}, Vals (ys.map V.str) us → StrsAre us ys
  | [], _, r => by rw [List.map_nil] at r; cases r; exact .nil
  | y :: ys, _, r => by
    rw [List.map_cons] at r
    cases r with
    | cons r1 r2 =>
      obtain ⟨t, rfl⟩ := r1
      exact .cons y t (strsAre_of r2)
theorem mt_join : MtM X "str.join" (rJoin X.K) := by
  intro pins s σ H x vs v us Q I rx rv h
  obtain ⟨z, p, ys, rfl, rfl, hp, hz, q⟩ := h
  obtain ⟨t, rfl⟩ := rx
  obtain ⟨u, rfl, ru⟩ := rv.one
  cases (show u = Value.ref p from ru)
  obtain ⟨its, r, pl, _⟩ := I.list hp
  exact join_list pl.isList (by simpa using strsAre_of r) hz fun t' k => ⟨.str (Txt.join z ys), H, I.tok _, ⟨_, rfl⟩, q⟩
theorem bm_join (ho : BE X o to) (ha : BA X (e :: es) t) (hbase : attributeBase o "join" X.env (eval o X.env) = eval o X.env := by rfl)
    (hfew : ((backTo cpos (starEach (e :: es) X.env)).all (fun x => !x.1) && (backToKw cpos (keywordEach [] X.env)).all (fun x => x.1.isSome)
      && decide ((e :: es).length + ([] : List Keyword).length + (if ([] : List Keyword).isEmpty then 0 else 1) < 30)) = true := by rfl)
    (hline : (apos.endLine == cpos.line) = true := by rfl) (h1 : isStar e = false := by rfl) (h2 : noStar es = true := by rfl) :
    BE X (.Call (.Attribute o "join" apos) (e :: es) [] cpos) (tBM X.K "str" (rJoin X.K) to t) :=
  ⟨pe_bm F.plainAttrs_str F.slot_str_join F.type_str_join mt_join ho.h ha.h hbase hfew hline (star_cons h1) (star_any h2)⟩
abbrev TJ := St → Hp → Str → (Str → Hp → Prop) → Prop
structure BJ (X : Cx) (es : List Expr) (t : TJ) : Prop where
  h : ∀ (pins : List (Addr × Obj)) (s : Shared) (σ : St) (H : Hp) (out : Str) (Q : Str → Hp → Prop), Inv X pins σ H s → t σ H out Q → wpAny (model X.prog X.w) X.A (joinParts out (evalEach es X.env)) (fun u s' => ∃ z H', Inv X pins σ H' s' ∧ RelV (.str z) u ∧ Q z H') X.xe s
end
end L2
namespace L2
open PySem PySem.Spec PyProof.Rows
open PySem.SeqAt
open PySem.AutoSeq1 (wpAny_loadPart')
open PySem.MeetsSeq PySem.MeetsSeq2 PySem.MeetsSeq3
end L2
namespace L2
open PySem PySem.Spec PyProof.Rows
section
variable {prog : Program} {w : World} {A : Around} {E : Value → Shared → Prop} {s : Shared} {it : Addr} {z : Str} {t : Tok}
end
end L2
namespace L2
open PySem PySem.Spec PyProof.Rows
section
variable {X : Cx} {K : PySem.W.Frag} {σ : St} {H : Hp} {Q : VK} {e : Expr} {te : TE} {pos : Pos}
end
end L2
namespace L2
open PySem PySem.Spec PyProof.Rows
structure BP (X : Cx) (e : Expr) (t : TE) : Prop where
  h : ∀ (pins : List (Addr × Obj)) (s : Shared) (σ : St) (H : Hp) (Q : VK), Inv X pins σ H s → 0 < s.toks → t σ H Q → wpAny (model X.prog X.w) X.A (eval e X.env) (fun u s' => 0 < s'.toks ∧ EP X pins σ Q u s') X.xe s
section
variable {X : Cx} {K : PySem.W.Frag} {σ : St} {H : Hp} {Q : VK} {o e : Expr} {es : List Expr} {to te te2 te3 : TE} {t : TA} {apos cpos pos p2 : Pos}
end
end L2
namespace L2
open PySem PySem.Spec PyProof.Rows
section
variable {K : PySem.W.Frag} {σ : St} {H : Hp} {Q : VK} {ix : List Nat} {te : TE}
theorem lcWl {a : Addr} {xs : List V} (W : Nat → List V → Hp → Prop) (hz : xs.length ≤ sizeLine) (h0 : W 0 [] H) (hl : ∀ i ys H', W i ys H' → SqL K H' a xs ∧ ys.length = i)
    (hE : ∀ i v ys H', xs[i]? = some v → W i ys H' → te (some v :: pick ix σ) H' fun y H5 => W (i + 1) (ys ++ [y]) H5)
    (hQ : ∀ ys p H' H1, W xs.length ys H' → H' p = none → Same H' H1 → H1 p = some (.lst ys) → Q (.ref p) H1) : LcW (Itl K a) ix σ tYes te Q H := by
  refine ⟨fun i m ys H2 => m = xs.length - i ∧ i ≤ xs.length ∧ W i ys H2, ⟨xs.length, by simp, Nat.zero_le _, h0⟩, ?_⟩
  rintro i m ys H2 ⟨rfl, hi, w⟩
  obtain ⟨q, e⟩ := hl i ys H2 w
  by_cases hlt : i < xs.length
  · refine .inr ⟨⟨xs, _, q, List.getElem?_eq_getElem hlt⟩, by omega, fun x H3 y => ?_⟩
    obtain ⟨rfl, y⟩ := y
    show te _ _ _
    rw [show (fun y H5 => ∃ m', m' < xs.length - i ∧ m' = xs.length - (i + 1) ∧ i + 1 ≤ xs.length ∧ W (i + 1) (ys ++ [y]) H5) = fun y H5 => W (i + 1) (ys ++ [y]) H5 from ?_]
    · exact hE i x ys _ (y xs q) w
    · funext y H5
      apply propext
      exact ⟨fun ⟨m', _, _, _, h⟩ => h, fun h => ⟨xs.length - (i + 1), by omega, rfl, hlt, h⟩⟩
  · have : i = xs.length := by omega
    subst this
    exact .inl ⟨⟨xs, q, Nat.le_refl _⟩, fun D hD => hQ ys D H2 _ w hD (same_new hD) upd_same⟩
theorem lcWr {lo : Int} {n : Nat} (W : Nat → List V → Hp → Prop) (hz : n ≤ sizeLine) (h0 : W 0 [] H) (hl : ∀ i ys H', W i ys H' → ys.length = i)
    (hE : ∀ i ys H', i < n → W i ys H' → te (some (.int (lo + i)) :: pick ix σ) H' fun y H5 => W (i + 1) (ys ++ [y]) H5)
    (hQ : ∀ ys p H' H1, W n ys H' → H' p = none → Same H' H1 → H1 p = some (.lst ys) → Q (.ref p) H1) : LcW (Itr lo n) ix σ tYes te Q H := by
  refine ⟨fun i m ys H2 => m = n - i ∧ i ≤ n ∧ W i ys H2, ⟨n, by simp, Nat.zero_le _, h0⟩, ?_⟩
  rintro i m ys H2 ⟨rfl, hi, w⟩
  have e := hl i ys H2 w
  by_cases hlt : i < n
  · refine .inr ⟨hlt, by omega, fun x H3 y => ?_⟩
    obtain ⟨rfl, rfl⟩ := y
    show te _ _ _
    rw [show (fun y H5 => ∃ m', m' < n - i ∧ m' = n - (i + 1) ∧ i + 1 ≤ n ∧ W (i + 1) (ys ++ [y]) H5) = fun y H5 => W (i + 1) (ys ++ [y]) H5 from ?_]
    · exact hE i ys _ hlt w
    · funext y H5
      apply propext
      exact ⟨fun ⟨m', _, _, _, h⟩ => h, fun h => ⟨n - (i + 1), by omega, rfl, hlt, h⟩⟩
  · have : i = n := by omega
    subst this
    exact .inl ⟨by show _ ≤ _; omega, fun D hD => hQ ys D H2 _ w hD (same_new hD) upd_same⟩
theorem join_one : ∀ cs : List Nat, Txt.join (Str.ofString "") (cs.map fun c => (⟨#[c]⟩ : Str)) = ⟨cs.toArray⟩ := by
  intro cs
  refine (StrLaws.glued_eq_join _ _).trans ?_
  induction cs with
  | nil => rfl
  | cons c cs ih =>
    cases cs with
    | nil => rfl
    | cons d ds =>
      rw [List.map_cons] at ih
      rw [List.map_cons, List.map_cons]
      show (⟨#[c]⟩ ++ Str.ofString "" ++ Str.join (Str.ofString "") ((⟨#[d]⟩ : Str) :: ds.map fun d => (⟨#[d]⟩ : Str)) : Str) = _
      rw [ih]
      have e : ∀ x y : Str, x.cps.toList = y.cps.toList → x = y := fun x y h => by
        cases x; cases y
        congr 1
        exact Array.ext' h
      refine e _ _ ?_
      rw [app_list, app_list]
      simp
      rfl
theorem sum_one (cs : List Nat) : ((cs.map fun c => (⟨#[c]⟩ : Str)).map (·.length)).sum = cs.length := by
  induction cs with
  | nil => rfl
  | cons c cs ih =>
    rw [List.map_cons, List.map_cons, List.sum_cons, ih, List.length_cons]
    show 1 + cs.length = _
    omega
end
end L2
namespace L2
open PySem PySem.Spec PyProof.Rows
section
variable {X : Cx} {K : PySem.W.Frag} {σ : St} {H : Hp} {Q : VK}
theorem Reps.rep {H : Hp} {ds : List L2.D} {vs : List V} (r : Reps H ds vs) : ∀ k : Nat, Reps H (List.replicate k ds).flatten (List.replicate k vs).flatten
  | 0 => Reps.nil'
  | k + 1 => by
    rw [List.replicate_succ, List.flatten_cons, List.replicate_succ, List.flatten_cons]
    exact r.append (Reps.rep r k)
end
end L2
namespace L2
open PySem PySem.Spec PyProof.Rows
section
variable {X : Cx} {scope : Scope} {x : Str} {fv : List Str} {ix : List Nat}
variable {y : Str} {iy : Nat} {py px pos spos : Pos} {elt iter : Expr} {ifs : List Expr} {osc : Scope} {wi : TI} {tt : TT} {te : TE}
end
end L2
namespace L2
open PySem PySem.Spec PyProof.Rows
section
variable {X : Cx} {K : PySem.W.Frag} {σ : St} {H : Hp} {Q : VK} {e : Expr} {te : TE} {pos : Pos}
theorem Inv.turnedT {pins : List (Addr × Obj)} {s : Shared} {h' : Heap} {ch : List Addr} {n : Addr} {vs : List V} {t' : Nat} (I : Inv X pins σ H s) (k : ∀ b o, b ∉ ch → s.heap.get? b = some o → h'.get? b = some o) (hf : ∀ b ∈ ch, FpOk X pins H b)
    (hn : s.heap.objs.size ≤ n) (hnc : n ∉ ch) (new : ObjOk X.prog X.w (upd H n (.tup vs)) h' n (.tup vs)) : Inv X pins σ (upd H n (.tup vs)) { s with heap := h', toks := t' } := by
  have nch : ∀ b u, H b = some u → b ∉ ch := fun b u e z => by rw [(hf b z).1] at e; cases e
  have Hn : H n = none := I.hok.fresh hn
  have nn : ∀ b u, H b = some u → b ≠ n := fun b u e z => by rw [z, Hn] at e; cases e
  have lt : ∀ b o, s.heap.get? b = some o → b ≠ n := fun b o e => Nat.ne_of_lt (Nat.lt_of_lt_of_le (Heap.lt_size e) hn)
  refine I.step (g' := s.gens) (d' := s.drawn) (ch := ch) (fun b hb => ?_) (fun b o _ _ hc e _ => k b o hc e) (fun b o _ _ hc e _ => ⟨o.slots, k b o hc e⟩) (fun b o _ e q => by rw [upd_ne (lt b o e)]; exact q)
    (fun b o hc e => ⟨o, k b o hc e⟩) (fun b xs e => by rw [upd_ne (nn b _ e)]; exact e) (fun b o u e => by rw [upd_ne (nn b _ e)]; exact e) (fun b ps e => ⟨#[], by rw [upd_ne (nn b _ e), e]; simp⟩) (fun m hm => ?_) (fun b u e => ?_) I.bare
  · obtain ⟨_, f1, _, f3, f4, f5⟩ := hf b hb
    exact ⟨f3, f1, f4, f5⟩
  · obtain ⟨o, es, ep, ho, r⟩ := hm
    exact ⟨o, es, ep, k _ o (fun z => (hf _ z).2.1 rfl) ho, r⟩
  · by_cases hb : b = n
    · subst hb
      rw [upd_same] at e
      cases e
      exact new
    · rw [upd_ne hb] at e
      refine (I.hok b u e).stay (fun c v hc q => k c v ?_ q) (fun c q => by rw [upd_ne (nn c _ q)]; exact q) fun c xs q => by rw [upd_ne (nn c _ q)]; exact q
      rcases hc with z | z
      · rw [z]; exact nch b u e
      · exact nch c _ z
def Ite (K : PySem.W.Frag) (a : Addr) : It :=
  ⟨fun i H => ∃ xs x, SqL K H a xs ∧ xs[i]? = some x, fun i H x H' => ∃ p v, x = .ref p ∧ H p = none ∧ (∀ xs, SqL K H a xs → xs[i]? = some v) ∧ H' = upd H p (.tup [.int (i : Int), v]), fun i H => ∃ xs, SqL K H a xs ∧ xs.length ≤ i⟩
theorem turn_enum {P : Program} {w : World} {K : PySem.W.Frag} {elts : List Expr} {kt : Nat} {tp : Pos} (a en it : Addr) (hne : en ≠ it) : Turn P w K (.Tuple elts kt tp) (Ite K a) [en, it] en (fun i h => (∃ old, IsEnum h en it (i : Int) old) ∧ h.IsListIter it a i) where
  mem := by simp
  obj := fun i h st b hb => by
    obtain ⟨⟨old, s1⟩, o, e, c, d⟩ := st
    rcases List.mem_cons.mp hb with rfl | hb
    · exact ⟨_, s1, fun v z => by cases z⟩
    · rw [List.mem_singleton.mp hb]
      exact ⟨o, e, fun v z => by rw [d] at z; cases z⟩
  keep := fun i h h' st k => by
    obtain ⟨⟨old, s1⟩, s2⟩ := st
    exact ⟨⟨old, k en (by simp) _ s1⟩, s2.at fun o e => k it (by simp) o e⟩
  item := by
    intro X hP hw hK hc i pins s σ H E I hf st hg
    subst hP hw hK
    obtain ⟨⟨old, s1⟩, s2⟩ := st
    obtain ⟨xs, x, hq, hx⟩ := hg
    obtain ⟨its, rv, p, hz⟩ := I.list hq
    obtain ⟨u, hu, ru⟩ := rv.get hx
    have hn : H s.heap.objs.size = none := I.hok.fresh (Nat.le_refl _)
    have lt1 : s.heap.objs.size ≠ en := Ne.symm (Nat.ne_of_lt (Heap.lt_size s1))
    have lt2 : s.heap.objs.size ≠ it := by
      obtain ⟨o, e, _⟩ := s2
      exact Ne.symm (Nat.ne_of_lt (Heap.lt_size e))
    refine wpAny_pyNext_enum_item s1 s2 p.isList (x := u) (by simpa using hu) hne fun h' o1 l1 t1 z1 k1 => ?_
    refine ⟨_, rfl, wpAny_letOwnedTupleGo_enum (s := { s with heap := h', toks := s.toks + 1 }) o1 fun h2 e2 sb2 => ?_⟩
    have l2 : h2.IsListIter it a (i + 1) := l1.at fun o e => (sb2.2 it (Ne.symm hne)).trans e
    have t2 : h2.get? s.heap.objs.size = some { cls := .type "tuple", data := .seq #[.int (i : Int) s.toks, u] } := (sb2.2 _ lt1).trans t1
    have I2 : Inv X pins σ (upd H s.heap.objs.size (.tup [.int (i : Int), x])) { s with heap := h2, toks := s.toks + 1 } := by
      refine I.turnedT (ch := [en, it]) (fun b o hb e => ?_) hf (Nat.le_refl _) (by simp [lt1, lt2]) ⟨by simp only [List.length_cons, List.length_nil]; decide, [.int (i : Int) s.toks, u], .cons ⟨_, rfl⟩ (.cons ru .nil), _, t2, rfl, _, rfl⟩
      simp only [List.mem_cons, List.not_mem_nil, or_false, not_or] at hb
      exact (sb2.2 b hb.1).trans (k1 b o hb.1 hb.2 e)
    refine ⟨.ref s.heap.objs.size, _, I2, rfl, ⟨_, x, rfl, hn, fun ys hy => by rw [I.list_inj hy hq]; exact hx, rfl⟩, ⟨⟨_, e2⟩, l2⟩, fun b hb => ?_⟩
    rw [upd_ne (fun z => ?_)]
    · exact (hf b hb).1
    · subst z
      simp only [List.mem_cons, List.not_mem_nil, or_false] at hb
      rcases hb with hb | hb
      · exact lt1 hb
      · exact lt2 hb
  done := by
    intro X hP hw hK hc i pins s σ H E I hf st hg
    subst hP hw hK
    obtain ⟨⟨old, s1⟩, s2⟩ := st
    obtain ⟨xs, hq, hx⟩ := hg
    obtain ⟨its, rv, p, hz⟩ := I.list hq
    obtain ⟨f0, f1, f2, f3, f4, f5⟩ := hf it (by simp)
    have hl := rv.length
    exact wpAny_pyNext_enum_end (I.ok.hd hc) s1 s2 p.isList (by simp; omega) fun h' eb => ⟨rfl, I.turned (t' := s.toks) (fun b o hb e => eb b o hb e) f0 f1 f3 f4 f5⟩
  self := fun _ _ _ _ _ st h => by
    obtain ⟨⟨old, s1⟩, _⟩ := st
    exact wpAny_pyIter_enum s1 h
def iEnum (K : PySem.W.Frag) (te : TE) : TI := fun σ H R => te σ H fun x H1 => ∃ a, [x] = [V.ref a] ∧ (∃ xs, SqL K H1 a xs) ∧ R (Ite K a) H1
theorem bi_enum {elts : List Expr} {kt : Nat} {tp p : Pos} (hm : X.mg "enumerate" = none) (h : BE X e te) (hg : Gl X "enumerate" := by rfl) (h1 : isStar e = false := by rfl) : BI X (.Tuple elts kt tp) (.Call (.Name "enumerate" p) [e] [] pos) (iEnum X.K te) := ⟨by
  intro pins s σ H R I q
  refine wpAny_Call_Name_kw (ld_blt (u := .type "enumerate") I hg hm (by kernel_rfl) ?_ (by decide) (by decide))
  refine PyProof.Rows.callWith_type1 ?_ (star_cons h1) rfl
  refine thn ((ba_c h ba_nil h1).h pos pins s σ H (fun vs H1 => ∃ a, vs = [V.ref a] ∧ (∃ xs, SqL X.K H1 a xs) ∧ R (Ite X.K a) H1) I q) fun us s1 ⟨vs, H1, I1, rv, a, ev, ⟨xs, hq⟩, q⟩ => ?_
  subst ev
  obtain ⟨u, rfl, ru⟩ := vals1 rv
  cases (show u = Value.ref a from ru)
  obtain ⟨its, rv, pl, hz⟩ := I1.list hq
  refine call_enumerate_list pl.isList fun h' e1 l1 z1 k1 => ?_
  refine wpAny_pyIter_enum e1 ?_
  have hne : s1.heap.objs.size + 1 ≠ s1.heap.objs.size := by omega
  refine ⟨s1.heap.objs.size + 1, [s1.heap.objs.size + 1, s1.heap.objs.size], _, _, H1, rfl, I1.kept (t' := s1.toks) k1, turn_enum a _ _ hne, ⟨⟨_, e1⟩, l1⟩, fun b hb => ?_, q⟩
  have hb2 : s1.heap.objs.size ≤ b := by
    simp only [List.mem_cons, List.not_mem_nil, or_false] at hb
    rcases hb with rfl | rfl
    · exact Nat.le_succ _
    · exact Nat.le_refl _
  exact I1.fpOk hb2 (I1.hok.fresh hb2)⟩
instance y1 {te : TE} {F : It → Hp → Prop} : RdS (iEnum K te σ H F) (te σ H fun x H1 => ∃ a, [x] = [V.ref a] ∧ (∃ xs, SqL K H1 a xs) ∧ F (Ite K a) H1) := ⟨id⟩
theorem rd_exE {a : Addr} {xs : List V} {F : Addr → Prop} (e : SqL K H a xs) (h : F a) : ∃ b, [V.ref a] = [V.ref b] ∧ (∃ xs, SqL K H b xs) ∧ F b := ⟨a, rfl, ⟨xs, e⟩, h⟩
theorem forE {a : Addr} {xs : List V} {g : TG} {tb : TS} {D : Ends} (Pv : Nat → St → Hp → Prop) (h0 : Pv 0 σ H) (hl : ∀ i σ H, Pv i σ H → SqL K H a xs)
    (hs : ∀ i x p σ H H1, i < xs.length → xs[i]? = some x → Pv i σ H → H p = none → Same H H1 → H1 p = some (.tup [.int (i : Int), x]) → g (.ref p) σ H1 fun σ2 H2 => tb { nx := Pv (i + 1), rt := D.rt, ct := Pv (i + 1), bk := D.nx } σ2 H2) (hd : ∀ σ H, Pv xs.length σ H → D.nx σ H) : ForW (Ite K a) g tb D σ H := by
  refine ⟨fun i m σ H => m = xs.length - i ∧ i ≤ xs.length ∧ Pv i σ H, ⟨xs.length, by simp, Nat.zero_le _, h0⟩, ?_⟩
  rintro i m σ H ⟨rfl, hi, p⟩
  have q := hl i σ H p
  by_cases hlt : i < xs.length
  · refine .inr ⟨⟨xs, _, q, List.getElem?_eq_getElem hlt⟩, Pv (i + 1), fun σ' H' p' => ⟨xs.length - (i + 1), by omega, rfl, hlt, p'⟩, fun x H' y => ?_⟩
    obtain ⟨pp, v, rfl, hp, y, rfl⟩ := y
    exact hs i v pp σ H _ hlt (y xs q) p hp (same_new hp) upd_same
  · have e : i = xs.length := by omega
    subst e
    exact .inl ⟨⟨xs, q, Nat.le_refl _⟩, hd σ H p⟩
end
end L2
namespace L2
open PySem PySem.Spec PyProof.Rows
section
variable {X : Cx} {K : PySem.W.Frag} {σ : St} {H : Hp} {Q : VK} {o e i : Expr} {es : List Expr} {to te ti : TE} {t : TA} {apos cpos pos p2 : Pos}
end
end L2
namespace L2
open PySem PySem.Spec PyProof.Rows
section
variable {X : Cx} {K : PySem.W.Frag} {σ : St} {H : Hp} {Q : VK} {o i : Expr} {to ti : TE} {pos : Pos}
theorem bg_sub {t : TSet} (ho : BE X o to) (hi : BE X i ti) (hs : PSet X t) (ha : ∀ v, assign (.Subscript o i pos) X.env v = (do
      let ov ← holding [v] (eval o X.env)
      let iv ← holding [v, ov] (eval i X.env)
      standAt pos
      holding [v, ov, iv] (setItem ov iv v)
      release [v, ov, iv] []) := by intro _; rfl) : BG X (.Subscript o i pos) (gSub to ti t) := ⟨pg_sub ho.h hi.h hs ha⟩
instance y3 {T : String} {r : V → List V → Hp → VK → Prop} {to : TE} : RdS (tBM0 K T r to σ H Q) (to σ H fun x H1 => tyV K T x H1 ∧ r x [] H1 Q) := ⟨id⟩
instance y2 {t : TSet} {v : V} {F : St → Hp → Prop} : RdS (gSub to ti t v σ H F) (to σ H fun o H1 => ti σ H1 fun i H2 => t o i v H2 fun H3 => F σ H3) := ⟨id⟩
theorem rd_setL {p : Addr} {xs : List V} {j : Nat} {v : V} {F : Hp → Prop} (e : H p = some (.lst xs)) (hj : j < xs.length) (h : F (upd H p (.lst (xs.set j v)))) : rSetL (.ref p) (.int (j : Int)) v H F := ⟨p, xs, j, j, rfl, rfl, e, by unfold ixN; rw [if_pos (by omega), if_pos (by omega)]; simp, h⟩
end
end L2
namespace L2
open PySem PySem.Spec PyProof.Rows
section
variable {X : Cx} {K : PySem.W.Frag} {σ : St} {H : Hp} {Q : VK} {o e : Expr} {es : List Expr} {to te : TE} {t : TA} {apos cpos pos p2 : Pos}
end
end L2
namespace L2
open PySem PySem.Spec PyProof.Rows
section
variable {σ : St} {H : Hp} {Q : VK} {te : TE} {t : TJ} {out : Str} {F : Str → Hp → Prop}
end
end L2
namespace L2
open PySem PySem.Spec PyProof.Rows
def val : List Nat → Int
  | [] => 0
  | d :: ds => d + 16 * val ds
def okF (ds : List Nat) : Prop := ∀ d ∈ ds, d < 16
theorem okF.take {ds : List Nat} (h : okF ds) (n : Nat) : okF (ds.take n) := fun d hd => h d (List.mem_of_mem_take hd)
theorem okF.drop {ds : List Nat} (h : okF ds) (n : Nat) : okF (ds.drop n) := fun d hd => h d (List.mem_of_mem_drop hd)
def sg (ds : List Nat) : Str := ⟨(ds.map (97 + ·)).toArray⟩
theorem str_ext {x y : Str} (h : x.cps.toList = y.cps.toList) : x = y := by
  cases x; cases y
  congr 1
  exact Array.ext' h
end L2
namespace L2
open PySem PySem.Spec PyProof.Rows
end L2
namespace L2
open PySem PySem.Spec PyProof.Rows
def pH (z : Str) : Str := (Txt.partition z (Str.ofString ":")).1
def pB (z : Str) : Str := (Txt.partition z (Str.ofString ":")).2.2
end L2
namespace L2
open PySem PySem.Spec PyProof.Rows
end L2
namespace L2
open PySem PySem.Spec PyProof.Rows
end L2
namespace L2
open PySem PySem.Spec PyProof.Rows
section
variable {X : Cx} {K : PySem.W.Frag} {σ : St} {H : Hp} {Q : VK} {o e : Expr} {es : List Expr} {to te : TE} {t : TA} {apos cpos pos p2 : Pos}
end
end L2
namespace L2
open PySem PySem.Spec PyProof.Rows
end L2
namespace L2
open PySem PySem.Spec PyProof.Rows
section
variable {X : Cx} {K : PySem.W.Frag} {σ : St} {H : Hp} {Q : VK}
theorem Vals.len {xs : List V} {us : List Value} (h : Vals xs us) : us.length = xs.length := by
  induction h with
  | nil => rfl
  | cons _ _ ih => simp only [List.length_cons, ih]
end
end L2
namespace L2
open PySem PySem.Spec PyProof.Rows
section
variable {X : Cx} {K : PySem.W.Frag} {σ : St} {H : Hp} {Q : VK} {o e : Expr} {es : List Expr} {to te : TE} {t : TA} {apos cpos pos p2 : Pos}
end
end L2
namespace L2
open PySem PySem.Spec PyProof.Rows
end L2
namespace L2
open PySem PySem.Spec PyProof.Rows
section
variable {K : PySem.W.Frag} {σ : St} {H : Hp} {Q : VK} {ix : List Nat} {te : TE} {tt : TT}
theorem lcWf {a : Addr} {xs : List V} (W : Nat → List V → Hp → Prop) (hz : xs.length ≤ sizeLine) (h0 : W 0 [] H) (hl : ∀ i ys H', W i ys H' → SqL K H' a xs ∧ ys.length ≤ i)
    (hE : ∀ i v ys H', xs[i]? = some v → W i ys H' → tt (some v :: pick ix σ) H' fun b H4 => if b = true then te (some v :: pick ix σ) H4 fun y H5 => W (i + 1) (ys ++ [y]) H5 else W (i + 1) ys H4)
    (hQ : ∀ ys p H' H1, W xs.length ys H' → H' p = none → Same H' H1 → H1 p = some (.lst ys) → Q (.ref p) H1) : LcW (Itl K a) ix σ tt te Q H := by
  refine ⟨fun i m ys H2 => m = xs.length - i ∧ i ≤ xs.length ∧ W i ys H2, ⟨xs.length, by simp, Nat.zero_le _, h0⟩, ?_⟩
  rintro i m ys H2 ⟨rfl, hi, w⟩
  obtain ⟨q, e⟩ := hl i ys H2 w
  by_cases hlt : i < xs.length
  · refine .inr ⟨⟨xs, _, q, List.getElem?_eq_getElem hlt⟩, by omega, fun x H3 y => ?_⟩
    obtain ⟨rfl, y⟩ := y
    have ex : ∀ (zs : List V) (H5 : Hp), (∃ m', m' < xs.length - i ∧ m' = xs.length - (i + 1) ∧ i + 1 ≤ xs.length ∧ W (i + 1) zs H5) = W (i + 1) zs H5 := fun zs H5 =>
      propext ⟨fun ⟨m', _, _, _, h⟩ => h, fun h => ⟨xs.length - (i + 1), by omega, rfl, hlt, h⟩⟩
    simp only [ex]
    exact hE i x ys _ (y xs q) w
  · have : i = xs.length := by omega
    subst this
    exact .inl ⟨⟨xs, q, Nat.le_refl _⟩, fun D hD => hQ ys D H2 _ w hD (same_new hD) upd_same⟩
theorem ite_both {p : Prop} [Decidable p] {T U : TS} {D : Ends} (R : St → Hp → Prop) (h2 : ∀ σ' H', R σ' H' → D.nx σ' H') (hp : p → ∀ nx' : St → Hp → Prop, (∀ σ' H', R σ' H' → nx' σ' H') → T { nx := nx', rt := D.rt, bk := D.bk, ct := D.ct } σ H) (hn : ¬ p → ∀ nx' : St → Hp → Prop, (∀ σ' H', R σ' H' → nx' σ' H') → U { nx := nx', rt := D.rt, bk := D.bk, ct := D.ct } σ H) : if p then T D σ H else U D σ H := by
  by_cases h : p
  · rw [if_pos h]
    exact hp h D.nx h2
  · rw [if_neg h]
    exact hn h D.nx h2
end
end L2
namespace L2
open PySem PySem.Spec PyProof.Rows
section
variable {X : Cx} {K : PySem.W.Frag} {σ : St} {H : Hp} {Q : VK}
end
end L2
namespace PySem
open PySem PySem.Spec PySem.AutoSeq1
end PySem
namespace L2
open PySem PySem.Spec PyProof.Rows
section
variable {X : Cx} {K : PySem.W.Frag} {σ : St} {H : Hp} {Q : VK} {o e : Expr} {es : List Expr} {to te : TE} {t : TA} {apos cpos pos p2 : Pos}
theorem bm_extend (ho : BE X o to) (ha : BA X (e :: es) t) (hbase : attributeBase o "extend" X.env (eval o X.env) = eval o X.env := by rfl)
    (hfew : ((backTo cpos (starEach (e :: es) X.env)).all (fun x => !x.1) && (backToKw cpos (keywordEach [] X.env)).all (fun x => x.1.isSome)
      && decide ((e :: es).length + ([] : List Keyword).length + (if ([] : List Keyword).isEmpty then 0 else 1) < 30)) = true := by rfl)
    (hline : (apos.endLine == cpos.line) = true := by rfl) (h1 : isStar e = false := by rfl) (h2 : noStar es = true := by rfl) :
    BE X (.Call (.Attribute o "extend" apos) (e :: es) [] cpos) (tBM X.K "list" rExtend to t) :=
  ⟨pe_bm F.plainAttrs_list F.slot_list_extend F.type_list_extend mt_extend ho.h ha.h hbase hfew hline (star_cons h1) (star_any h2)⟩
theorem rd_extend {l b : Addr} {xs zs : List V} (h1 : H l = some (.lst xs)) (h2 : H b = some (.lst zs)) (h3 : xs.length + zs.length ≤ sizeLine) (q : Q .non (upd H l (.lst (xs ++ zs)))) : rExtend (.ref l) [.ref b] H Q := ⟨l, b, xs, zs, rfl, rfl, h1, h2, h3, q⟩
end
end L2
namespace L2
open PySem PySem.Spec PyProof.Rows
end L2
namespace L2
open PySem PySem.Spec PyProof.Rows
section
variable {K : PySem.W.Frag} {σ : St} {H : Hp} {Q : VK} {ix : List Nat} {te : TE} {tt : TT}
end
end L2
namespace L2
open PySem PySem.Spec PyProof.Rows
section
variable {X : Cx} {K : PySem.W.Frag} {σ : St} {H : Hp} {Q : VK}
end
end L2
namespace L2
open PySem PySem.Spec PyProof.Rows
section
variable {X : Cx} {K : PySem.W.Frag} {σ : St} {H : Hp} {Q : VK} {o e : Expr} {es : List Expr} {to te : TE} {t : TA} {apos cpos pos p2 : Pos}
end
end L2
namespace L2
open PySem PySem.Spec PyProof.Rows
theorem two {xs : List Nat} (h : xs.length = 2) : ∃ a b, xs = [a, b] := by
  match xs, h with
  | [a, b], _ => exact ⟨a, b, rfl⟩
end L2
namespace L2
open PySem PySem.Spec PyProof.Rows
section
variable {X : Cx} {K : PySem.W.Frag} {σ : St} {H : Hp} {Q : VK}
theorem Inv.framed {pins : List (Addr × Obj)} {s : Shared} {h' : Heap} {t' : Nat} {m : Str → Option Value} (I : Inv X pins σ H s) (hm : s.heap.Ns X.env.locals m) (k : ∀ b o, b ≠ X.env.locals → s.heap.get? b = some o → h'.get? b = some o) (hn : h'.Ns X.env.locals m) : Inv X pins σ H { s with heap := h', toks := t' } := by
  have nit : ∀ b u, H b = some u → b ≠ X.env.locals := fun b u e z => by rw [z, I.free] at e; cases e
  refine I.step (g' := s.gens) (d' := s.drawn) (ch := []) (fun b hb => nomatch hb) (fun b o hb _ _ e _ => k b o hb e) (fun b o hb _ _ e _ => ⟨o.slots, k b o hb e⟩) (fun _ _ _ _ n => n)
    (fun b o _ e => ?_) (fun _ _ e => e) (fun _ _ _ e => e) (fun b ps e => ⟨#[], by rw [e]; simp⟩) (fun m' hm' => ?_) (fun b u e => ?_) I.bare
  · by_cases hb : b = X.env.locals
    · obtain ⟨o', _, _, ho', _⟩ := hn
      exact ⟨o', by rw [hb]; exact ho'⟩
    · exact ⟨o, k b o hb e⟩
  · have e : m' = m := by rw [hm'.eq_nsMap, hm.eq_nsMap]
    rw [e]
    exact hn
  · refine (I.hok b u e).stay (fun c v hc q => k c v ?_ q) (fun _ q => q) fun _ _ q => q
    rcases hc with z | z
    · rw [z]; exact nit b u e
    · exact nit c _ z
end
end L2
namespace L2
open PySem PySem.Spec PyProof.Rows
section
variable {X : Cx} {K : PySem.W.Frag} {σ : St} {H : Hp} {Q : VK}
def rMaxL (K : PySem.W.Frag) : List V → Hp → VK → Prop := fun xs H Q => ∃ (p : Addr) (ns : List Int), xs = [.ref p] ∧ SqL K H p (ns.map V.int) ∧ 0 < ns.length ∧ ∀ M, M ∈ ns → (∀ a ∈ ns, a ≤ M) → Q (.int M) H
theorem c_maxL (hc : X.calm = true := by rfl) : CallR X (.builtin "max") (rMaxL X.K) := by
  intro pins s σ H xs us Q I r h
  obtain ⟨p, ns, rfl, hp, hl, q⟩ := h
  obtain ⟨u, rfl, ru⟩ := vals1 r
  cases (show u = Value.ref p from ru)
  obtain ⟨its, r', pl, _⟩ := I.list hp
  obtain ⟨m, hm, _⟩ := id I.loc
  refine max_list_N (I.ok.hd hc) (Att.fr_all hm) (news_all (g := Att.noObjs s.heap)) pl.isList (L2.intsAre_of r') hl fun h' M t tk F N hM hle => ?_
  exact ⟨.int M, H, I.framed hm (fun b o hb e => (N (b, o) (mem_allNews hb (Att.noObjs_get _ _) e)).1) F.ns, ⟨_, rfl⟩, q M hM hle⟩
theorem rd_maxL {p : Addr} (ns : List Int) (h1 : SqL K H p (ns.map V.int)) (h2 : 0 < ns.length) (q : ∀ M, M ∈ ns → (∀ a ∈ ns, a ≤ M) → Q (.int M) H) : rMaxL K [.ref p] H Q := ⟨p, ns, rfl, h1, h2, q⟩
end
end L2
namespace TS
open PySem PySem.W PyProof.Rows
local macro_rules | `(term| type_of% $n:ident) => return Lean.mkIdent (Lean.mkPrivateNameCore `PySem.Builtin.List.W1All (`PySem.Builtin ++ n.getId))
local macro_rules | `(tactic| delta $n:ident) => if Lean.isPrivateName n.getId then Lean.Macro.throwUnsupported else `(tactic| delta $(Lean.mkIdent (Lean.mkPrivateNameCore `PySem.Builtin.List.W1All (`PySem.Builtin ++ n.getId))):ident)
abbrev tsLt := type_of% lt
abbrev tsElem := type_of% elem
abbrev tsGallop := type_of% gallop
abbrev tsLo := type_of% mergeLo
abbrev tsHi := type_of% mergeHi
abbrev tsMin := type_of% setMinGallop
structure Cmp (prog : Program) (w : World) (A : Around) (s : Shared) (κ : SortKind) (M : Keyed → Prop) (c : Keyed → Keyed → Bool) : Prop where
  ask : ∀ x y, M x → M y → ∀ C : Bool → Shared → Prop, C (c x y) s → wpAny (model prog w) A (keyLt' κ x.1 y.1) C (fun _ _ => False) s
  tot : ∀ x y, M x → M y → x ≠ y → c x y = false → c y x = true
  asy : ∀ x y, M x → M y → c x y = true → c y x = false
  trans : ∀ x y z, M x → M y → M z → c x y = true → c y z = true → c x z = true
section
variable {prog : Program} {w : World} {A : Around} {s : Shared} {E : Value → Shared → Prop} {κ : SortKind} {M : Keyed → Prop} {c : Keyed → Keyed → Bool}
theorem ts_lt (L : Cmp prog w A s κ M c) {x y : Keyed} (hx : M x) (hy : M y) {st : SortSt} (hk : PyProof.Rows.kindOf st = κ) {Q : Option Bool → SortSt → Prop} (q : Q (some (c x y)) st) : wpS (model prog w) A E s (tsLt x y) Q st := by
  unfold tsLt
  delta lt
  refine wpS_bind (wpS_get ?_)
  refine wpS_bind (wpS_lift ?_)
  refine wpAny_attempt ?_
  have := L.ask x y hx hy (fun b s' => s' = s ∧ wpS (model prog w) A E s (match (Except.ok b : Except Value Bool) with
    | Except.ok b => pure (some b)
    | Except.error e => do
      modify fun x => SortSt.mk' (PyProof.Rows.kindOf x) (arrOf x) (pendingOf x) (gallopOf x) (some e)
      pure none) Q st) ⟨rfl, wpS_pure q⟩
  rw [← hk] at this
  exact wpAny_mono this (fun _ _ h => h) fun _ _ h => h.elim
theorem ts_elem {arr : Array Keyed} {i : Nat} {p : Keyed} (h : arr[i]? = some p) {st : SortSt} {Q : Keyed → SortSt → Prop} (q : Q p st) : wpS (model prog w) A E s (tsElem arr i) Q st := by
  show wpS (model prog w) A E s (elem' arr i) Q st
  rw [elem'_eq, h]
  exact wpS_pure q
abbrev TsR {β : Type} (D Y : β → SortSt → Prop) : ForInStep β → SortSt → Prop
  | .done b, st => D b st
  | .yield b, st => Y b st
theorem ts_fuel {β : Type} {f : Nat → β → StateT SortSt Sem (ForInStep β)} {Q : β → SortSt → Prop} (I : Nat → β → SortSt → Prop)
    (step : ∀ x k b st, I k b st → wpS (model prog w) A E s (f x b) (TsR Q (fun b' st' => ∃ k', k' < k ∧ I k' b' st')) st) :
    ∀ (l : List Nat) (k : Nat) (b : β) (st : SortSt), k < l.length → I k b st → wpS (model prog w) A E s (forIn l b f) Q st
  | [], k, b, st, h, _ => absurd h (Nat.not_lt_zero _)
  | x :: l, k, b, st, h, i => by
    rw [List.forIn_cons]
    refine wpS_bind (wpS_mono (step x k b st i) fun r st' hr => ?_)
    cases r with
    | done b' => exact wpS_pure hr
    | yield b' =>
      obtain ⟨k', h1, h2⟩ := hr
      exact ts_fuel I step l k' b' st' (by rw [List.length_cons] at h; omega) h2
theorem ts_fuel0 {β : Type} {f : Nat → β → StateT SortSt Sem (ForInStep β)} {Q : β → SortSt → Prop} (I : Nat → β → SortSt → Prop)
    (step : ∀ x k b st, I k b st → wpS (model prog w) A E s (f x b) (TsR Q (fun b' st' => ∃ k', k' < k ∧ I k' b' st')) st)
    (fin : ∀ b st, I 0 b st → Q b st) :
    ∀ (l : List Nat) (k : Nat) (b : β) (st : SortSt), k ≤ l.length → I k b st → wpS (model prog w) A E s (forIn l b f) Q st
  | [], k, b, st, h, i => by
    obtain rfl : k = 0 := Nat.le_zero.mp h
    rw [List.forIn_nil]
    exact wpS_pure (fin b st i)
  | x :: l, k, b, st, h, i => by
    rw [List.forIn_cons]
    refine wpS_bind (wpS_mono (step x k b st i) fun r st' hr => ?_)
    cases r with
    | done b' => exact wpS_pure hr
    | yield b' =>
      obtain ⟨k', h1, h2⟩ := hr
      exact ts_fuel0 I step fin l k' b' st' (by rw [List.length_cons] at h; omega) h2
theorem range_list {β : Type} {f : Nat → β → StateT SortSt Sem (ForInStep β)} {a n : Nat} {b : β} : (forIn [a:n] b f : StateT SortSt Sem β) = forIn (List.range' a (n - a)) b f := by
  rw [Std.Legacy.Range.forIn_eq_forIn_range']
  simp [Std.Legacy.Range.size]
end
end TS
namespace TS
open PySem PySem.W PyProof.Rows
local macro_rules | `(term| type_of% $n:ident) => return Lean.mkIdent (Lean.mkPrivateNameCore `PySem.Builtin.List.W1All (`PySem.Builtin ++ n.getId))
local macro_rules | `(tactic| delta $n:ident) => if Lean.isPrivateName n.getId then Lean.Macro.throwUnsupported else `(tactic| delta $(Lean.mkIdent (Lean.mkPrivateNameCore `PySem.Builtin.List.W1All (`PySem.Builtin ++ n.getId))):ident)
section
variable {prog : Program} {w : World} {A : Around} {s : Shared} {E : Value → Shared → Prop} {κ : SortKind} {M : Keyed → Prop} {c : Keyed → Keyed → Bool}
theorem ts_beyond (L : Cmp prog w A s κ M c) {left : Bool} {key x : Keyed} {arr : Array Keyed} {j : Nat} {b : Bool} {st : SortSt} (hkey : M key) (hx : arr[j]? = some x) (mx : M x) (hb : b = if left then c x key else !(c key x)) (hk : PyProof.Rows.kindOf st = κ) {Q : Option Bool → SortSt → Prop} (q : Q (some b) st) :
    wpS (model prog w) A E s (tsElem arr j >>= fun x => if left = true then tsLt x key else tsLt key x >>= fun r => pure (Option.map (fun x => !x) r)) Q st := by
  refine wpS_bind (ts_elem hx ?_)
  cases left with
  | true =>
    rw [if_pos rfl]
    refine ts_lt L mx hkey hk ?_
    rw [hb] at q
    exact q
  | false =>
    rw [if_neg (by decide)]
    refine wpS_bind (ts_lt L hkey mx hk (wpS_pure ?_))
    rw [hb] at q
    exact q
theorem ts_gallop (L : Cmp prog w A s κ M c) {left : Bool} {key : Keyed} {arr : Array Keyed} {base n hint : Nat} {st : SortSt} {Q : Option Nat → SortSt → Prop} (p : Nat → Bool)
    (hkey : M key) (harr : ∀ i, i < n → ∃ x, arr[base + i]? = some x ∧ M x ∧ p i = if left then c x key else !(c key x))
    (hh : hint < n) (mono : ∀ i j, i ≤ j → j < n → p j = true → p i = true) (hk : PyProof.Rows.kindOf st = κ)
    (q : ∀ k, k ≤ n → (∀ i, i < k → p i = true) → (∀ i, k ≤ i → i < n → p i = false) → Q (some k) st) :
    wpS (model prog w) A E s (tsGallop left key arr base n hint) Q st := by
  have mono' : ∀ i j, i ≤ j → j < n → p i = false → p j = false := fun i j h1 h2 h3 => by
    cases e : p j with
    | false => rfl
    | true => rw [mono i j h1 h2 e] at h3; cases h3
  unfold tsGallop
  delta gallop
  dsimp only
  obtain ⟨x, hx, mx, px⟩ := harr hint hh
  refine wpS_bind (ts_beyond L hkey hx mx px hk ?_)
  dsimp only
  cases e : p hint with
  | true =>
    rw [if_pos rfl]
    refine wpS_bind ?_
    rw [range_list]
    refine wpS_mono (Q := fun (b : Option (Option Nat) × Nat × Nat) st' => st = st' ∧ b.1 = none ∧ b.2.1 < b.2.2 ∧ hint + b.2.1 < n ∧ p (hint + b.2.1) = true ∧ (hint + b.2.2 < n → p (hint + b.2.2) = false))
      (ts_fuel (fun k (b : Option (Option Nat) × Nat × Nat) st' => st = st' ∧ b.1 = none ∧ b.2.1 < b.2.2 ∧ hint + b.2.1 < n ∧ p (hint + b.2.1) = true ∧ k = n - hint - 1 - b.2.1) ?_ _ (n - hint - 1) _ _ (by rw [List.length_range']; omega) ⟨rfl, rfl, by decide, by dsimp only; omega, e, by dsimp only; omega⟩) ?_
    · rintro y k ⟨r, lastofs, ofs⟩ st' ⟨rfl, rfl, h1, h2, h3, h4⟩
      dsimp only at h1 h2 h3 h4 ⊢
      by_cases g : ofs ≥ n - hint
      · rw [if_pos g]
        exact wpS_pure ⟨rfl, rfl, h1, h2, h3, fun z => by dsimp only at z; omega⟩
      · rw [if_neg g]
        obtain ⟨x, hx, mx, px⟩ := harr (hint + ofs) (by omega)
        refine wpS_bind (ts_beyond L hkey hx mx px hk ?_)
        dsimp only
        cases e2 : p (hint + ofs) with
        | false => exact wpS_pure ⟨rfl, rfl, h1, h2, h3, fun _ => e2⟩
        | true => exact wpS_pure ⟨_, show n - hint - 1 - ofs < k by omega, rfl, rfl, by dsimp only; omega, by dsimp only; omega, e2, rfl⟩
    · rintro ⟨r, lastofs, ofs⟩ st' ⟨rfl, rfl, h1, h2, h3, h4⟩
      dsimp only at h1 h2 h3 h4 ⊢
      have f1 : ∀ i, i < hint + lastofs + 1 → p i = true := fun i hi => mono i _ (by omega) h2 h3
      have f2 : ∀ i, hint + min ofs (n - hint) ≤ i → i < n → p i = false := fun i h5 h6 => by
        by_cases g : hint + ofs < n
        · exact mono' _ i (by omega) h6 (h4 g)
        · omega
      have f3 : hint + lastofs + 1 ≤ hint + min ofs (n - hint) := by omega
      have f4 : hint + min ofs (n - hint) ≤ n := by omega
      have f5 : hint + min ofs (n - hint) - (hint + lastofs + 1) < n := by omega
      generalize hint + lastofs + 1 = lo at *
      generalize hint + min ofs (n - hint) = hi at *
      refine wpS_bind ?_
      rw [range_list]
      refine wpS_mono (Q := fun (b : Option (Option Nat) × Nat × Nat) st' => st = st' ∧ b.1 = none ∧ b.2.2 ≤ n ∧ (∀ i, i < b.2.2 → p i = true) ∧ (∀ i, b.2.2 ≤ i → i < n → p i = false))
        (ts_fuel (fun k (b : Option (Option Nat) × Nat × Nat) st' => st = st' ∧ b.1 = none ∧ b.2.1 ≤ b.2.2 ∧ b.2.2 ≤ n ∧ (∀ i, i < b.2.1 → p i = true) ∧ (∀ i, b.2.2 ≤ i → i < n → p i = false) ∧ k = b.2.2 - b.2.1) ?_ _ (hi - lo) _ _ (by rw [List.length_range']; omega) ⟨rfl, rfl, f3, f4, f1, f2, rfl⟩) ?_
      · rintro y k ⟨r, l, h⟩ st' ⟨rfl, rfl, g1, g2, g3, g4, g5⟩
        dsimp only at g1 g2 g3 g4 g5 ⊢
        by_cases g : l ≥ h
        · rw [if_pos g]
          obtain rfl : l = h := by omega
          exact wpS_pure ⟨rfl, rfl, g2, g3, g4⟩
        · rw [if_neg g]
          obtain ⟨x, hx, mx, px⟩ := harr (l + (h - l) / 2) (by omega)
          refine wpS_bind (ts_beyond L hkey hx mx px hk ?_)
          dsimp only
          cases e2 : p (l + (h - l) / 2) with
          | true => exact wpS_pure ⟨_, show h - (l + (h - l) / 2 + 1) < k by omega, rfl, rfl, by dsimp only; omega, g2, fun i hi => mono i _ (by dsimp only at hi; omega) (by omega) e2, g4, rfl⟩
          | false => exact wpS_pure ⟨_, show l + (h - l) / 2 - l < k by omega, rfl, rfl, by dsimp only; omega, by dsimp only; omega, g3, fun i h5 h6 => mono' _ i h5 h6 e2, rfl⟩
      · rintro ⟨r, l, h⟩ st' ⟨rfl, rfl, g1, g2, g3⟩
        exact wpS_pure (q h g1 g2 g3)
  | false =>
    rw [if_neg (by decide)]
    refine wpS_bind ?_
    rw [range_list]
    refine wpS_mono (Q := fun (b : Option (Option Nat) × Nat × Nat) st' => st = st' ∧ b.1 = none ∧ b.2.1 < b.2.2 ∧ b.2.1 ≤ hint ∧ p (hint - b.2.1) = false ∧ (b.2.2 ≤ hint → p (hint - b.2.2) = true))
      (ts_fuel (fun k (b : Option (Option Nat) × Nat × Nat) st' => st = st' ∧ b.1 = none ∧ b.2.1 < b.2.2 ∧ b.2.1 ≤ hint ∧ p (hint - b.2.1) = false ∧ k = hint - b.2.1) ?_ _ hint _ _ (by rw [List.length_range']; omega) ⟨rfl, rfl, by decide, Nat.zero_le _, e, rfl⟩) ?_
    · rintro y k ⟨r, lastofs, ofs⟩ st' ⟨rfl, rfl, h1, h2, h3, h4⟩
      dsimp only at h1 h2 h3 h4 ⊢
      by_cases g : ofs ≥ hint + 1
      · rw [if_pos g]
        exact wpS_pure ⟨rfl, rfl, h1, h2, h3, fun z => by dsimp only at z; omega⟩
      · rw [if_neg g]
        obtain ⟨x, hx, mx, px⟩ := harr (hint - ofs) (by omega)
        refine wpS_bind (ts_beyond L hkey hx mx px hk ?_)
        dsimp only
        cases e2 : p (hint - ofs) with
        | true => exact wpS_pure ⟨rfl, rfl, h1, h2, h3, fun _ => e2⟩
        | false => exact wpS_pure ⟨_, show hint - ofs < k by omega, rfl, rfl, by dsimp only; omega, by dsimp only; omega, e2, rfl⟩
    · rintro ⟨r, lastofs, ofs⟩ st' ⟨rfl, rfl, h1, h2, h3, h4⟩
      dsimp only at h1 h2 h3 h4 ⊢
      have f1 : ∀ i, i < hint + 1 - min ofs (hint + 1) → p i = true := fun i hi => by
        by_cases g : ofs ≤ hint
        · exact mono i _ (by omega) (by omega) (h4 g)
        · omega
      have f2 : ∀ i, hint - lastofs ≤ i → i < n → p i = false := fun i h5 h6 => mono' _ i h5 h6 h3
      have f3 : hint + 1 - min ofs (hint + 1) ≤ hint - lastofs := by omega
      have f4 : hint - lastofs ≤ n := by omega
      have f5 : hint - lastofs - (hint + 1 - min ofs (hint + 1)) < n := by omega
      generalize hint + 1 - min ofs (hint + 1) = lo at *
      generalize hint - lastofs = hi at *
      refine wpS_bind ?_
      rw [range_list]
      refine wpS_mono (Q := fun (b : Option (Option Nat) × Nat × Nat) st' => st = st' ∧ b.1 = none ∧ b.2.2 ≤ n ∧ (∀ i, i < b.2.2 → p i = true) ∧ (∀ i, b.2.2 ≤ i → i < n → p i = false))
        (ts_fuel (fun k (b : Option (Option Nat) × Nat × Nat) st' => st = st' ∧ b.1 = none ∧ b.2.1 ≤ b.2.2 ∧ b.2.2 ≤ n ∧ (∀ i, i < b.2.1 → p i = true) ∧ (∀ i, b.2.2 ≤ i → i < n → p i = false) ∧ k = b.2.2 - b.2.1) ?_ _ (hi - lo) _ _ (by rw [List.length_range']; omega) ⟨rfl, rfl, f3, f4, f1, f2, rfl⟩) ?_
      · rintro y k ⟨r, l, h⟩ st' ⟨rfl, rfl, g1, g2, g3, g4, g5⟩
        dsimp only at g1 g2 g3 g4 g5 ⊢
        by_cases g : l ≥ h
        · rw [if_pos g]
          obtain rfl : l = h := by omega
          exact wpS_pure ⟨rfl, rfl, g2, g3, g4⟩
        · rw [if_neg g]
          obtain ⟨x, hx, mx, px⟩ := harr (l + (h - l) / 2) (by omega)
          refine wpS_bind (ts_beyond L hkey hx mx px hk ?_)
          dsimp only
          cases e2 : p (l + (h - l) / 2) with
          | true => exact wpS_pure ⟨_, show h - (l + (h - l) / 2 + 1) < k by omega, rfl, rfl, by dsimp only; omega, g2, fun i hi => mono i _ (by dsimp only at hi; omega) (by omega) e2, g4, rfl⟩
          | false => exact wpS_pure ⟨_, show l + (h - l) / 2 - l < k by omega, rfl, rfl, by dsimp only; omega, by dsimp only; omega, g3, fun i h5 h6 => mono' _ i h5 h6 e2, rfl⟩
      · rintro ⟨r, l, h⟩ st' ⟨rfl, rfl, g1, g2, g3⟩
        exact wpS_pure (q h g1 g2 g3)
end
end TS
namespace TS
open PySem PySem.W PyProof.Rows
abbrev Srt (c : Keyed → Keyed → Bool) (l : List Keyed) : Prop := l.Pairwise fun x y => c x y = true
structure LI (M : Keyed → Prop) (c : Keyed → Keyed → Bool) (all out A B : List Keyed) : Prop where
  pm : (out ++ (A ++ B)).Perm all
  so : Srt c out
  sa : Srt c A
  sb : Srt c B
  lt : ∀ x ∈ out, ∀ y ∈ A ++ B, c x y = true
  mm : ∀ x ∈ all, M x
  nd : all.Nodup
section
variable {M : Keyed → Prop} {c : Keyed → Keyed → Bool} {all out A B A1 A2 B1 B2 : List Keyed} {x y : Keyed}
theorem LI.memA (h : LI M c all out A B) (hx : x ∈ A) : M x := h.mm x (h.pm.mem_iff.mp (List.mem_append_right _ (List.mem_append_left _ hx)))
theorem LI.memB (h : LI M c all out A B) (hx : x ∈ B) : M x := h.mm x (h.pm.mem_iff.mp (List.mem_append_right _ (List.mem_append_right _ hx)))
theorem LI.ne (h : LI M c all out A B) (hx : x ∈ A) (hy : y ∈ B) : x ≠ y := by
  have := (h.pm.nodup_iff.mpr h.nd)
  rw [List.nodup_append] at this
  have := this.2.1
  rw [List.nodup_append] at this
  exact this.2.2 x hx y hy
theorem LI.takeA (h : LI M c all out (A1 ++ A2) B) (l : ∀ x ∈ A1, ∀ y ∈ B, c x y = true) : LI M c all (out ++ A1) A2 B := by
  obtain ⟨pm, so, sa, sb, lt, mm, nd⟩ := h
  have sa' := List.pairwise_append.mp sa
  refine ⟨by rw [List.append_assoc, ← List.append_assoc A1]; exact pm, List.pairwise_append.mpr ⟨so, sa'.1, fun x hx y hy => lt x hx y (by simp [hy])⟩, sa'.2.1, sb, fun x hx y hy => ?_, mm, nd⟩
  rcases List.mem_append.mp hx with hx | hx
  · exact lt x hx y (by rw [List.append_assoc]; exact List.mem_append_right _ hy)
  · rcases List.mem_append.mp hy with hy | hy
    · exact sa'.2.2 x hx y hy
    · exact l x hx y hy
theorem LI.takeB (h : LI M c all out A (B1 ++ B2)) (l : ∀ x ∈ B1, ∀ y ∈ A, c x y = true) : LI M c all (out ++ B1) A B2 := by
  obtain ⟨pm, so, sa, sb, lt, mm, nd⟩ := h
  have sb' := List.pairwise_append.mp sb
  refine ⟨List.Perm.trans ?_ pm, List.pairwise_append.mpr ⟨so, sb'.1, fun x hx y hy => lt x hx y (by simp [hy])⟩, sa, sb'.2.1, fun x hx y hy => ?_, mm, nd⟩
  · rw [List.append_assoc]
    refine List.Perm.append_left out ?_
    rw [← List.append_assoc, ← List.append_assoc]
    exact List.Perm.append_right B2 List.perm_append_comm
  · rcases List.mem_append.mp hx with hx | hx
    · refine lt x hx y ?_
      rcases List.mem_append.mp hy with hy | hy
      · exact List.mem_append_left _ hy
      · exact List.mem_append_right _ (List.mem_append_right _ hy)
    · rcases List.mem_append.mp hy with hy | hy
      · exact l x hx y hy
      · exact sb'.2.2 x hx y hy
theorem LI.finA (h : LI M c all out A B) (e : B = []) : (out ++ A ++ B).Perm all ∧ Srt c (out ++ A ++ B) := by
  subst e
  refine ⟨by rw [List.append_assoc]; exact h.pm, ?_⟩
  rw [List.append_nil]
  exact List.pairwise_append.mpr ⟨h.so, h.sa, fun x hx y hy => h.lt x hx y (by simp [hy])⟩
theorem LI.finB (h : LI M c all out A B) (e : A = []) : (out ++ A ++ B).Perm all ∧ Srt c (out ++ A ++ B) := by
  subst e
  refine ⟨by rw [List.append_assoc]; exact h.pm, ?_⟩
  rw [List.append_nil]
  exact List.pairwise_append.mpr ⟨h.so, h.sb, fun x hx y hy => h.lt x hx y (by simp [hy])⟩
theorem LI.finL (h : LI M c all out A B) (l : ∀ x ∈ B, ∀ y ∈ A, c x y = true) : (out ++ B ++ A).Perm all ∧ Srt c (out ++ B ++ A) := by
  refine ⟨List.Perm.trans ?_ h.pm, ?_⟩
  · rw [List.append_assoc]
    exact List.Perm.append_left out List.perm_append_comm
  · rw [List.append_assoc]
    exact List.pairwise_append.mpr ⟨h.so, List.pairwise_append.mpr ⟨h.sb, h.sa, l⟩, fun x hx y hy => h.lt x hx y (by
      rcases List.mem_append.mp hy with hy | hy
      · exact List.mem_append_right _ hy
      · exact List.mem_append_left _ hy)⟩
end
structure HI (M : Keyed → Prop) (c : Keyed → Keyed → Bool) (all A B out : List Keyed) : Prop where
  pm : ((A ++ B) ++ out).Perm all
  so : Srt c out
  sa : Srt c A
  sb : Srt c B
  lt : ∀ x ∈ A ++ B, ∀ y ∈ out, c x y = true
  mm : ∀ x ∈ all, M x
  nd : all.Nodup
section
variable {M : Keyed → Prop} {c : Keyed → Keyed → Bool} {all out A B A1 A2 B1 B2 : List Keyed} {x y : Keyed}
theorem HI.memA (h : HI M c all A B out) (hx : x ∈ A) : M x := h.mm x (h.pm.mem_iff.mp (List.mem_append_left _ (List.mem_append_left _ hx)))
theorem HI.memB (h : HI M c all A B out) (hx : x ∈ B) : M x := h.mm x (h.pm.mem_iff.mp (List.mem_append_left _ (List.mem_append_right _ hx)))
theorem HI.ne (h : HI M c all A B out) (hx : x ∈ A) (hy : y ∈ B) : x ≠ y := by
  have := (h.pm.nodup_iff.mpr h.nd)
  rw [List.nodup_append] at this
  have := this.1
  rw [List.nodup_append] at this
  exact this.2.2 x hx y hy
theorem HI.takeA (h : HI M c all (A1 ++ A2) B out) (l : ∀ x ∈ B, ∀ y ∈ A2, c x y = true) : HI M c all A1 B (A2 ++ out) := by
  obtain ⟨pm, so, sa, sb, lt, mm, nd⟩ := h
  have sa' := List.pairwise_append.mp sa
  refine ⟨List.Perm.trans ?_ pm, List.pairwise_append.mpr ⟨sa'.2.1, so, fun x hx y hy => lt x (by simp [hx]) y hy⟩, sa'.1, sb, fun x hx y hy => ?_, mm, nd⟩
  · rw [← List.append_assoc]
    refine List.Perm.append_right out ?_
    rw [List.append_assoc, List.append_assoc]
    exact List.Perm.append_left A1 List.perm_append_comm
  · rcases List.mem_append.mp hy with hy | hy
    · rcases List.mem_append.mp hx with hx | hx
      · exact sa'.2.2 x hx y hy
      · exact l x hx y hy
    · refine lt x ?_ y hy
      rcases List.mem_append.mp hx with hx | hx
      · exact List.mem_append_left _ (List.mem_append_left _ hx)
      · exact List.mem_append_right _ hx
theorem HI.takeB (h : HI M c all A (B1 ++ B2) out) (l : ∀ x ∈ A, ∀ y ∈ B2, c x y = true) : HI M c all A B1 (B2 ++ out) := by
  obtain ⟨pm, so, sa, sb, lt, mm, nd⟩ := h
  have sb' := List.pairwise_append.mp sb
  refine ⟨by rw [← List.append_assoc, List.append_assoc A]; exact pm, List.pairwise_append.mpr ⟨sb'.2.1, so, fun x hx y hy => lt x (by simp [hx]) y hy⟩, sa, sb'.1, fun x hx y hy => ?_, mm, nd⟩
  rcases List.mem_append.mp hy with hy | hy
  · rcases List.mem_append.mp hx with hx | hx
    · exact l x hx y hy
    · exact sb'.2.2 x hx y hy
  · refine lt x ?_ y hy
    rcases List.mem_append.mp hx with hx | hx
    · exact List.mem_append_left _ hx
    · exact List.mem_append_right _ (List.mem_append_left _ hx)
theorem HI.finA (h : HI M c all A B out) (e : A = []) : (A ++ B ++ out).Perm all ∧ Srt c (A ++ B ++ out) := by
  subst e
  refine ⟨h.pm, List.pairwise_append.mpr ⟨h.sb, h.so, fun x hx y hy => h.lt x hx y hy⟩⟩
theorem HI.finB (h : HI M c all A B out) (e : B = []) : (A ++ B ++ out).Perm all ∧ Srt c (A ++ B ++ out) := by
  subst e
  refine ⟨h.pm, List.pairwise_append.mpr ⟨by rw [List.append_nil]; exact h.sa, h.so, fun x hx y hy => h.lt x hx y hy⟩⟩
theorem HI.finL (h : HI M c all A B out) (l : ∀ x ∈ B, ∀ y ∈ A, c x y = true) : (B ++ A ++ out).Perm all ∧ Srt c (B ++ A ++ out) :=
  ⟨(List.Perm.append_right out List.perm_append_comm).trans h.pm, List.pairwise_append.mpr ⟨List.pairwise_append.mpr ⟨h.sb, h.sa, l⟩, h.so, fun x hx y hy => h.lt x (by
      rcases List.mem_append.mp hx with hx | hx
      · exact List.mem_append_right _ hx
      · exact List.mem_append_left _ hx) y hy⟩⟩
end
section
variable {a : Array Keyed} {i k : Nat}
theorem ext_take : (a.extract i (i + k)).toList = (a.toList.drop i).take k := by
  rw [Array.toList_extract, List.extract_eq_take_drop]
  congr 1
  omega
theorem ext_drop : (a.extract i).toList = a.toList.drop i := by
  rw [Array.toList_extract, List.extract_eq_take_drop, List.take_of_length_le]
  rw [List.length_drop, Array.length_toList]
  exact Nat.le_refl _
theorem drop_at (h : i < a.size) : ∃ x, a[i]? = some x ∧ a.toList.drop i = x :: a.toList.drop (i + 1) :=
  ⟨a[i], Array.getElem?_eq_getElem h, by rw [← Array.getElem_toList]; exact List.drop_eq_getElem_cons (by rw [Array.length_toList]; exact h)⟩
theorem drop_split : a.toList.drop i = (a.toList.drop i).take k ++ a.toList.drop (i + k) := by
  rw [← List.drop_drop]
  exact (List.take_append_drop k _).symm
theorem drop_none (h : a.size ≤ i) : a.toList.drop i = [] := List.drop_eq_nil_of_le (by rw [Array.length_toList]; exact h)
end
end TS
namespace TS
open PySem PySem.W PyProof.Rows
local macro_rules | `(term| type_of% $n:ident) => return Lean.mkIdent (Lean.mkPrivateNameCore `PySem.Builtin.List.W1All (`PySem.Builtin ++ n.getId))
local macro_rules | `(tactic| delta $n:ident) => if Lean.isPrivateName n.getId then Lean.Macro.throwUnsupported else `(tactic| delta $(Lean.mkIdent (Lean.mkPrivateNameCore `PySem.Builtin.List.W1All (`PySem.Builtin ++ n.getId))):ident)
section
variable {prog : Program} {w : World} {A : Around} {s : Shared} {E : Value → Shared → Prop} {κ : SortKind} {M : Keyed → Prop} {c : Keyed → Keyed → Bool}
theorem seg_at {arr : Array Keyed} {base n : Nat} (hn : base + n ≤ arr.size) {i : Nat} (hi : i < n) : ∃ (h : i < ((arr.toList.drop base).take n).length), arr[base + i]? = some (((arr.toList.drop base).take n)[i]) := by
  have h : i < ((arr.toList.drop base).take n).length := by
    rw [List.length_take, List.length_drop, Array.length_toList]; omega
  refine ⟨h, ?_⟩
  rw [List.getElem_take, List.getElem_drop, ← Array.getElem?_toList, List.getElem?_eq_getElem]
theorem take_mem {l : List Keyed} {n k : Nat} (hk : k ≤ n) {x : Keyed} (h : x ∈ l.take k) : ∃ i, ∃ hi : i < (l.take n).length, i < k ∧ (l.take n)[i] = x := by
  obtain ⟨i, hi, e⟩ := List.getElem_of_mem h
  rw [List.length_take] at hi
  refine ⟨i, by rw [List.length_take]; omega, by omega, ?_⟩
  rw [List.getElem_take] at e ⊢
  exact e
theorem drop_mem {l : List Keyed} {k : Nat} {x : Keyed} (h : x ∈ l.drop k) : ∃ i, ∃ hi : i < l.length, k ≤ i ∧ l[i] = x := by
  obtain ⟨i, hi, e⟩ := List.getElem_of_mem h
  rw [List.length_drop] at hi
  rw [List.getElem_drop] at e
  exact ⟨k + i, by omega, by omega, e⟩
theorem gal_false (L : Cmp prog w A s κ M c) {arr : Array Keyed} {base n hint : Nat} {y : Keyed} {st : SortSt} {Q : Option Nat → SortSt → Prop} (hn : base + n ≤ arr.size) (hs : Srt c ((arr.toList.drop base).take n))
    (hm : ∀ x ∈ (arr.toList.drop base).take n, M x) (my : M y) (hh : hint < n) (hk : PyProof.Rows.kindOf st = κ)
    (q : ∀ k, k ≤ n → (∀ x ∈ (arr.toList.drop base).take k, c y x = false) → (∀ x ∈ ((arr.toList.drop base).take n).drop k, c y x = true) → Q (some k) st) :
    wpS (model prog w) A E s (tsGallop false y arr base n hint) Q st := by
  have hl : ((arr.toList.drop base).take n).length = n := by rw [List.length_take, List.length_drop, Array.length_toList]; omega
  have pg := List.pairwise_iff_getElem.mp hs
  refine ts_gallop L (fun i => !(c y (((arr.toList.drop base).take n).getD i y))) my (fun i hi => ?_) hh (fun i j hij hj e => ?_) hk fun k hkn f1 f2 => q k hkn (fun x hx => ?_) fun x hx => ?_
  · obtain ⟨h1, h2⟩ := seg_at hn hi
    refine ⟨_, h2, hm _ (List.getElem_mem h1), ?_⟩
    rw [List.getD_eq_getElem?_getD, List.getElem?_eq_getElem h1]
    rfl
  · have hi : i < ((arr.toList.drop base).take n).length := by omega
    have hj : j < ((arr.toList.drop base).take n).length := by omega
    rw [List.getD_eq_getElem?_getD, List.getElem?_eq_getElem hi]
    rw [List.getD_eq_getElem?_getD, List.getElem?_eq_getElem hj] at e
    simp only [Option.getD_some, Bool.not_eq_true'] at e ⊢
    by_cases g : i = j
    · subst g; exact e
    · cases z : c y (((arr.toList.drop base).take n)[i]) with
      | false => rfl
      | true => rw [L.trans _ _ _ my (hm _ (List.getElem_mem hi)) (hm _ (List.getElem_mem hj)) z (pg i j hi hj (by omega))] at e; cases e
  · obtain ⟨i, hi, h1, rfl⟩ := take_mem hkn hx
    have := f1 i h1
    rw [List.getD_eq_getElem?_getD, List.getElem?_eq_getElem hi] at this
    simpa using this
  · obtain ⟨i, hi, h1, rfl⟩ := drop_mem hx
    have := f2 i h1 (by omega)
    rw [List.getD_eq_getElem?_getD, List.getElem?_eq_getElem hi] at this
    simpa using this
theorem gal_true (L : Cmp prog w A s κ M c) {arr : Array Keyed} {base n hint : Nat} {y : Keyed} {st : SortSt} {Q : Option Nat → SortSt → Prop} (hn : base + n ≤ arr.size) (hs : Srt c ((arr.toList.drop base).take n))
    (hm : ∀ x ∈ (arr.toList.drop base).take n, M x) (my : M y) (hh : hint < n) (hk : PyProof.Rows.kindOf st = κ)
    (q : ∀ k, k ≤ n → (∀ x ∈ (arr.toList.drop base).take k, c x y = true) → (∀ x ∈ ((arr.toList.drop base).take n).drop k, c x y = false) → Q (some k) st) :
    wpS (model prog w) A E s (tsGallop true y arr base n hint) Q st := by
  have hl : ((arr.toList.drop base).take n).length = n := by rw [List.length_take, List.length_drop, Array.length_toList]; omega
  have pg := List.pairwise_iff_getElem.mp hs
  refine ts_gallop L (fun i => c (((arr.toList.drop base).take n).getD i y) y) my (fun i hi => ?_) hh (fun i j hij hj e => ?_) hk fun k hkn f1 f2 => q k hkn (fun x hx => ?_) fun x hx => ?_
  · obtain ⟨h1, h2⟩ := seg_at hn hi
    refine ⟨_, h2, hm _ (List.getElem_mem h1), ?_⟩
    rw [List.getD_eq_getElem?_getD, List.getElem?_eq_getElem h1]
    rfl
  · have hi : i < ((arr.toList.drop base).take n).length := by omega
    have hj : j < ((arr.toList.drop base).take n).length := by omega
    rw [List.getD_eq_getElem?_getD, List.getElem?_eq_getElem hi]
    rw [List.getD_eq_getElem?_getD, List.getElem?_eq_getElem hj] at e
    simp only [Option.getD_some] at e ⊢
    by_cases g : i = j
    · subst g; exact e
    · exact L.trans _ _ _ (hm _ (List.getElem_mem hi)) (hm _ (List.getElem_mem hj)) my (pg i j hi hj (by omega)) e
  · obtain ⟨i, hi, h1, rfl⟩ := take_mem hkn hx
    have := f1 i h1
    rw [List.getD_eq_getElem?_getD, List.getElem?_eq_getElem hi] at this
    simpa using this
  · obtain ⟨i, hi, h1, rfl⟩ := drop_mem hx
    have := f2 i h1 (by omega)
    rw [List.getD_eq_getElem?_getD, List.getElem?_eq_getElem hi] at this
    simpa using this
abbrev Gs (st : SortSt) (g : Nat) : SortSt := SortSt.mk' (PyProof.Rows.kindOf st) (arrOf st) (pendingOf st) g (failedOf st)
theorem ts_min {st : SortSt} {g g' : Nat} {Q : Unit → SortSt → Prop} (q : Q () (Gs st g)) : wpS (model prog w) A E s (tsMin g) Q (Gs st g') := by
  unfold tsMin
  delta setMinGallop
  exact wpS_modify q
theorem ts_rule {n : String} {st : SortSt} {Q : Unit → SortSt → Prop} (q : Q () st) : wpS (model prog w) A E s (liftM (rule n)) Q st := by
  refine wpS_lift ?_
  exact wpAny_rule ⟨rfl, q⟩
end
end TS
namespace TS
open PySem.W PyProof.Rows
theorem wpS_ite {Md : PySem.Model} {A : PySem.Around} {E : PySem.Value → PySem.Shared → Prop} {s : PySem.Shared} {σ α : Type} {p : Prop} [Decidable p] {x y : StateT σ PySem.Sem α} {Q : α → σ → Prop} {st : σ} (h1 : p → wpS Md A E s x Q st) (h2 : ¬ p → wpS Md A E s y Q st) : wpS Md A E s (if p then x else y) Q st := by
  by_cases h : p
  · rw [if_pos h]; exact h1 h
  · rw [if_neg h]; exact h2 h
end TS
namespace TS
local macro_rules | `(tactic| lcg_src) => `(tactic| try dsimp (zeta := false) (zetaUnused := false) only)
local macro_rules | `(tactic| lcg_sub) => `(tactic| (extract_lets +onlyGivenNames -underBinder -merge -useContext zz; subst zz; try dsimp (zeta := false) (zetaUnused := false) only))
open PySem PySem.W PyProof.Rows
local macro_rules | `(term| type_of% $n:ident) => return Lean.mkIdent (Lean.mkPrivateNameCore `PySem.Builtin.List.W1All (`PySem.Builtin ++ n.getId))
local macro_rules | `(tactic| delta $n:ident) => if Lean.isPrivateName n.getId then Lean.Macro.throwUnsupported else `(tactic| delta $(Lean.mkIdent (Lean.mkPrivateNameCore `PySem.Builtin.List.W1All (`PySem.Builtin ++ n.getId))):ident)
section
variable {prog : Program} {w : World} {A : Around} {s : Shared} {E : Value → Shared → Prop} {κ : SortKind} {M : Keyed → Prop} {c : Keyed → Keyed → Bool}
variable {a b : Array Keyed} {all : List Keyed}
theorem cons_lt {x : Keyed} {l : List Keyed} (h : Srt c (x :: l)) : ∀ z ∈ l, c x z = true := (List.pairwise_cons.mp h).1
theorem head_all (L : Cmp prog w A s κ M c) {x y : Keyed} {l : List Keyed} (h : Srt c (x :: l)) (mx : M x) (my : M y) (ml : ∀ z ∈ l, M z) (e : c y x = true) : ∀ z ∈ x :: l, c y z = true := fun z hz => by
  rcases List.mem_cons.mp hz with rfl | hz
  · exact e
  · exact L.trans _ _ _ my mx (ml z hz) e (cons_lt h z hz)
abbrev LoD (M : Keyed → Prop) (c : Keyed → Keyed → Bool) (all : List Keyed) (a b : Array Keyed) (st : SortSt) (k : Nat) (r : Option (Array Keyed) × Array Keyed × Nat × Nat × Nat × Nat × Nat) (st' : SortSt) : Prop :=
  ∃ g, st' = Gs st g ∧ ((∃ out, r.1 = some out ∧ out.toList.Perm all ∧ Srt c out.toList) ∨ (r.1 = none ∧ LI M c all r.2.1.toList (a.toList.drop r.2.2.1) (b.toList.drop r.2.2.2.1) ∧ r.2.2.1 + 1 < a.size ∧ r.2.2.2.1 < b.size ∧ 0 < r.2.2.2.1 ∧ a.size - r.2.2.1 + (b.size - r.2.2.2.1) < k))
abbrev LoI (M : Keyed → Prop) (c : Keyed → Keyed → Bool) (all : List Keyed) (a b : Array Keyed) (st : SortSt) (k k' : Nat) (r : Option (Array Keyed) × Array Keyed × Nat × Nat × Nat × Nat × Nat) (st' : SortSt) : Prop :=
  ∃ g, st' = Gs st g ∧ r.1 = none ∧ LI M c all r.2.1.toList (a.toList.drop r.2.2.1) (b.toList.drop r.2.2.2.1) ∧ r.2.2.1 + 1 < a.size ∧ r.2.2.2.1 < b.size ∧ 0 < r.2.2.2.1 ∧ k' = a.size - r.2.2.1 + (b.size - r.2.2.2.1) ∧ k' < k
theorem ts_lo (L : Cmp prog w A s κ M c) {st : SortSt} {Q : Array Keyed → SortSt → Prop} (h : LI M c all [] a.toList b.toList) (na : 0 < a.size) (nb : 0 < b.size)
    (h0 : ∀ x, b[0]? = some x → ∀ y ∈ a.toList, c x y = true) (hl : ∀ x ∈ b.toList, ∀ y ∈ a.toList.drop (a.size - 1), c x y = true) (hk : PyProof.Rows.kindOf st = κ)
    (q : ∀ r g, r.toList.Perm all → Srt c r.toList → Q r (Gs st g)) : wpS (model prog w) A E s (tsLo a b) Q st := by
  have eD : ∀ (out : Array Keyed) ia ib, (out ++ a.extract ia ++ b.extract ib).toList = out.toList ++ a.toList.drop ia ++ b.toList.drop ib := fun out ia ib => by
    rw [Array.toList_append, Array.toList_append, ext_drop, ext_drop]
  have eL : ∀ (out : Array Keyed) ia ib, (out ++ b.extract ib ++ a.extract ia).toList = out.toList ++ b.toList.drop ib ++ a.toList.drop ia := fun out ia ib => by
    rw [Array.toList_append, Array.toList_append, ext_drop, ext_drop]
  have lastA : ∀ {out : Array Keyed} {ia ib : Nat}, LI M c all out.toList (a.toList.drop ia) (b.toList.drop ib) → ia + 1 = a.size → (out ++ b.extract ib ++ a.extract ia).toList.Perm all ∧ Srt c (out ++ b.extract ib ++ a.extract ia).toList := fun {out ia ib} h e => by
    rw [eL]
    refine h.finL fun x hx y hy => hl x (List.mem_of_mem_drop hx) y ?_
    rw [show a.size - 1 = ia by omega]
    exact hy
  have doneB : ∀ {out : Array Keyed} {ia ib : Nat}, LI M c all out.toList (a.toList.drop ia) (b.toList.drop ib) → ib = b.size → (out ++ a.extract ia ++ b.extract ib).toList.Perm all ∧ Srt c (out ++ a.extract ia ++ b.extract ib).toList := fun {out ia ib} h e => by
    rw [eD]
    exact h.finA (drop_none (by omega))
  have doneA : ∀ {out : Array Keyed} {ia ib : Nat}, LI M c all out.toList (a.toList.drop ia) (b.toList.drop ib) → ia = a.size → (out ++ a.extract ia ++ b.extract ib).toList.Perm all ∧ Srt c (out ++ a.extract ia ++ b.extract ib).toList := fun {out ia ib} h e => by
    rw [eD]
    exact h.finB (drop_none (by omega))
  have hkg : ∀ g, PyProof.Rows.kindOf (Gs st g) = κ := fun _ => hk
  unfold tsLo
  delta mergeLo
  lcg_src
  refine wpS_bind (ts_rule ?_)
  obtain ⟨b0, hb0, db0⟩ := drop_at (a := b) nb
  refine wpS_bind (ts_elem hb0 ?_)
  have i1 : LI M c all (#[b0] : Array Keyed).toList (a.toList.drop 0) (b.toList.drop 1) := by
    have := LI.takeB (out := []) (A := a.toList) (B1 := [b0]) (B2 := b.toList.drop 1) (by rw [List.drop_zero] at db0; rw [db0] at h; exact h) fun x hx y hy => by
      rw [List.mem_singleton.mp hx]; exact h0 b0 hb0 y hy
    exact this
  by_cases e1 : 1 = b.size
  · rw [if_pos (by rw [← e1]; rfl)]
    have := doneB i1 e1
    exact wpS_pure (q _ (gallopOf st) this.1 this.2)
  rw [if_neg (by simpa using e1)]
  by_cases e2 : 0 + 1 = a.size
  · rw [if_pos (by rw [← e2]; rfl)]
    have := lastA i1 e2
    exact wpS_pure (q _ (gallopOf st) this.1 this.2)
  rw [if_neg (by simpa using e2)]
  refine wpS_bind (wpS_get ?_)
  refine wpS_bind ?_
  rw [range_list]
  refine wpS_mono (Q := fun (r : Option (Array Keyed) × Array Keyed × Nat × Nat × Nat) st' => ∃ out g, r.1 = some out ∧ st' = Gs st g ∧ out.toList.Perm all ∧ Srt c out.toList)
    (ts_fuel (fun k (r : Option (Array Keyed) × Array Keyed × Nat × Nat × Nat) st' => ∃ g, st' = Gs st g ∧ r.1 = none ∧ LI M c all r.2.1.toList (a.toList.drop r.2.2.1) (b.toList.drop r.2.2.2.1) ∧ r.2.2.1 + 1 < a.size ∧ r.2.2.2.1 < b.size ∧ 0 < r.2.2.2.1 ∧ k = a.size - r.2.2.1 + (b.size - r.2.2.2.1)) ?_ _ (a.size + (b.size - 1)) _ _ (by rw [List.length_range']; omega) ⟨gallopOf st, rfl, rfl, i1, by dsimp only; omega, by dsimp only; omega, Nat.one_pos, by dsimp only; omega⟩) ?_
  · rintro _ k ⟨r0, out, ia, ib, mg⟩ st' ⟨g, rfl, rfl, i2, ha, hb, hp, hk2⟩
    dsimp only at i2 ha hb hp hk2
    (lcg_src; lcg_sub; lcg_sub; lcg_sub; lcg_sub; lcg_sub; lcg_sub; lcg_sub; lcg_sub; lcg_sub)
    refine wpS_bind ?_
    rw [range_list]
    refine wpS_mono (Q := fun (r : Option (Array Keyed) × Array Keyed × Nat × Nat × Nat × Nat) st' => st' = Gs st g ∧ ((∃ out, r.1 = some out ∧ out.toList.Perm all ∧ Srt c out.toList) ∨ (r.1 = none ∧ LI M c all r.2.1.toList (a.toList.drop r.2.2.1) (b.toList.drop r.2.2.2.1) ∧ r.2.2.1 + 1 < a.size ∧ r.2.2.2.1 < b.size ∧ 0 < r.2.2.2.1 ∧ a.size - r.2.2.1 + (b.size - r.2.2.2.1) < k)))
      (ts_fuel (fun k' (r : Option (Array Keyed) × Array Keyed × Nat × Nat × Nat × Nat) st' => st' = Gs st g ∧ r.1 = none ∧ LI M c all r.2.1.toList (a.toList.drop r.2.2.1) (b.toList.drop r.2.2.2.1) ∧ r.2.2.1 + 1 < a.size ∧ r.2.2.2.1 < b.size ∧ 0 < r.2.2.2.1 ∧ k' = a.size - r.2.2.1 + (b.size - r.2.2.2.1) ∧ k' ≤ k) ?_ _ k _ _ ?_ ⟨rfl, rfl, i2, ha, hb, hp, hk2, Nat.le_refl _⟩) ?_
    · rintro _ k' ⟨r0, out, ia, ib, ac, bc⟩ st' ⟨rfl, rfl, i3, ha, hb, hp, hk3, hkk⟩
      dsimp only at i3 ha hb hp hk3
      (lcg_src; lcg_sub; lcg_sub; lcg_sub; lcg_sub; lcg_sub; lcg_sub; lcg_sub; lcg_sub; lcg_sub)
      obtain ⟨y, hy, dy⟩ := drop_at hb
      obtain ⟨x, hx, dx⟩ := drop_at (show ia < a.size by omega)
      have my : M y := i3.memB (by rw [dy]; exact List.mem_cons_self)
      have mx : M x := i3.memA (by rw [dx]; exact List.mem_cons_self)
      refine wpS_bind (ts_elem hy (wpS_bind (ts_elem hx (wpS_bind (ts_lt L my mx (hkg g) ?_)))))
      lcg_src
      cases e : c y x with
      | true =>
        rw [if_pos rfl]
        refine wpS_bind (ts_elem hy ?_)
        have i4 : LI M c all (out.push y).toList (a.toList.drop ia) (b.toList.drop (ib + 1)) := by
          rw [Array.toList_push]
          rw [dy] at i3
          refine LI.takeB (B1 := [y]) i3 fun z hz v hv => ?_
          rw [List.mem_singleton.mp hz]
          rw [dx] at hv i3
          exact head_all L i3.sa mx my (fun z hz => i3.memA (List.mem_cons_of_mem _ hz)) e v hv
        by_cases e1 : ib + 1 = b.size
        · rw [if_pos (by rw [← e1]; exact beq_self_eq_true _)]
          exact wpS_pure ⟨rfl, .inl ⟨_, rfl, doneB i4 e1⟩⟩
        · rw [if_neg (by simpa using e1)]
          split
          · exact wpS_pure ⟨rfl, .inr ⟨rfl, i4, by dsimp only; omega, by dsimp only; omega, by dsimp only; omega, by dsimp only; omega⟩⟩
          · exact wpS_pure ⟨_, show a.size - ia + (b.size - (ib + 1)) < k' by omega, rfl, rfl, i4, by dsimp only; omega, by dsimp only; omega, by dsimp only; omega, rfl, by omega⟩
      | false =>
        rw [if_neg (by decide)]
        refine wpS_bind (ts_elem hx ?_)
        have e' : c x y = true := L.tot _ _ my mx (fun z => i3.ne (x := x) (y := y) (by rw [dx]; exact List.mem_cons_self) (by rw [dy]; exact List.mem_cons_self) z.symm) e
        have i4 : LI M c all (out.push x).toList (a.toList.drop (ia + 1)) (b.toList.drop ib) := by
          rw [Array.toList_push]
          rw [dx] at i3
          refine LI.takeA (A1 := [x]) i3 fun z hz v hv => ?_
          rw [List.mem_singleton.mp hz]
          rw [dy] at hv i3
          exact head_all L i3.sb my mx (fun z hz => i3.memB (List.mem_cons_of_mem _ hz)) e' v hv
        by_cases e1 : ia + 1 + 1 = a.size
        · rw [if_pos (by rw [← e1]; exact beq_self_eq_true _)]
          exact wpS_pure ⟨rfl, .inl ⟨_, rfl, lastA i4 e1⟩⟩
        · rw [if_neg (by simpa using e1)]
          split
          · exact wpS_pure ⟨rfl, .inr ⟨rfl, i4, by dsimp only; omega, by dsimp only; omega, by dsimp only; omega, by dsimp only; omega⟩⟩
          · exact wpS_pure ⟨_, show a.size - (ia + 1) + (b.size - ib) < k' by omega, rfl, rfl, i4, by dsimp only; omega, by dsimp only; omega, by dsimp only; omega, rfl, by omega⟩
    · rw [List.length_range']; omega
    · rintro ⟨r0, out, ia, ib, ac, bc⟩ st' ⟨rfl, ⟨o, rfl, p1, p2⟩ | ⟨rfl, i3, ha, hb, hp, hk3⟩⟩
      · exact wpS_pure ⟨o, g, rfl, rfl, p1, p2⟩
      dsimp only at i3 ha hb hp hk3
      (lcg_src; lcg_sub; lcg_sub; lcg_sub; lcg_sub; lcg_sub; lcg_sub; lcg_sub; lcg_sub; lcg_sub; lcg_sub)
      refine wpS_bind (ts_rule ?_)
      refine wpS_bind ?_
      rw [range_list]
      refine wpS_mono (Q := LoD M c all a b st k)
        (ts_fuel (LoI M c all a b st k) ?_ _ _ _ _ ?_ ⟨g, rfl, rfl, i3, ha, hb, hp, rfl, hk3⟩) ?_
      · rintro _ k' ⟨r0, out, ia, ib, mg, ac, bc⟩ st' ⟨g, rfl, rfl, i3, ha, hb, hp, hk3, hkk⟩
        dsimp only at i3 ha hb hp hk3
        (lcg_src; lcg_sub; lcg_sub; lcg_sub; lcg_sub; lcg_sub; lcg_sub; lcg_sub; lcg_sub; lcg_sub; lcg_sub; lcg_sub)
        (extract_lets +onlyGivenNames -underBinder -merge -useContext J1; clear_value (hJ1 : J1 = _))
        have j1 : ∀ mg', wpS (model prog w) A E s (J1 () mg') (TsR (LoD M c all a b st k) fun r st' => ∃ k'', k'' < k' ∧ LoI M c all a b st k k'' r st') (Gs st g) := fun mg' => by
          rw [hJ1]
          lcg_src
          refine wpS_bind (ts_min ?_)
          obtain ⟨y, hy, dy⟩ := drop_at hb
          have my : M y := i3.memB (by rw [dy]; exact List.mem_cons_self)
          refine wpS_bind (ts_elem hy ?_)
          have tA : (a.toList.drop ia).take (a.size - ia) = a.toList.drop ia := List.take_of_length_le (by rw [List.length_drop, Array.length_toList]; exact Nat.le_refl _)
          refine wpS_bind (gal_false L (by omega) (by rw [tA]; exact i3.sa) (fun x hx => i3.memA (by rw [tA] at hx; exact hx)) my (by omega) (hkg _) fun k1 hk1 f1 f2 => ?_)
          rw [tA, List.drop_drop] at f2
          have hyB : y ∈ b.toList.drop ib := by rw [dy]; exact List.mem_cons_self
          have i4 : LI M c all (out.toList ++ (a.toList.drop ia).take k1) (a.toList.drop (ia + k1)) (b.toList.drop ib) := by
            rw [drop_split (k := k1)] at i3
            refine i3.takeA fun x hx v hv => ?_
            have mx : M x := i3.memA (List.mem_append_left _ hx)
            have e' := L.tot _ _ my mx (fun z => i3.ne (List.mem_append_left _ hx) hyB z.symm) (f1 x hx)
            rw [dy] at hv i3
            exact head_all L i3.sb my mx (fun z hz => i3.memB (List.mem_cons_of_mem _ hz)) e' v hv
          (lcg_src; lcg_sub)
          (extract_lets +onlyGivenNames -underBinder -merge -useContext J2; clear_value (hJ2 : J2 = _))
          have j2 : ∀ (out2 : Array Keyed) (ia2 : Nat), ia ≤ ia2 → LI M c all out2.toList (a.toList.drop ia2) (b.toList.drop ib) → (∀ x ∈ a.toList.drop ia2, c y x = true) → ia2 + 1 < a.size → wpS (model prog w) A E s (J2 () out2 ia2) (TsR (LoD M c all a b st k) fun r st' => ∃ k'', k'' < k' ∧ LoI M c all a b st k k'' r st') (Gs st mg') := fun out2 ia2 hle i5 f3 ha2 => by
            rw [hJ2]
            lcg_src
            refine wpS_bind (ts_elem hy ?_)
            (lcg_src; lcg_sub; lcg_sub)
            have i6 : LI M c all (out2.push y).toList (a.toList.drop ia2) (b.toList.drop (ib + 1)) := by
              rw [Array.toList_push]
              rw [dy] at i5
              refine LI.takeB (B1 := [y]) i5 fun z hz v hv => ?_
              rw [List.mem_singleton.mp hz]
              exact f3 v hv
            refine wpS_ite (fun e1 => wpS_pure ⟨_, rfl, .inl ⟨_, rfl, doneB i6 (eq_of_beq e1)⟩⟩) fun e1 => ?_
            have e1 : ib + 1 ≠ b.size := by simpa using e1
            obtain ⟨x, hx, dx⟩ := drop_at (show ia2 < a.size by omega)
            have hxA : x ∈ a.toList.drop ia2 := by rw [dx]; exact List.mem_cons_self
            have mx : M x := i6.memA hxA
            refine wpS_bind (ts_elem hx ?_)
            have tB : (b.toList.drop (ib + 1)).take (b.size - (ib + 1)) = b.toList.drop (ib + 1) := List.take_of_length_le (by rw [List.length_drop, Array.length_toList]; exact Nat.le_refl _)
            refine wpS_bind (gal_true L (by omega) (by rw [tB]; exact i6.sb) (fun x hx => i6.memB (by rw [tB] at hx; exact hx)) mx (by omega) (hkg _) fun k2 hk2' f4 f5 => ?_)
            rw [tB, List.drop_drop] at f5
            have i7 : LI M c all ((out2.push y).toList ++ (b.toList.drop (ib + 1)).take k2) (a.toList.drop ia2) (b.toList.drop (ib + 1 + k2)) := by
              rw [drop_split (i := ib + 1) (k := k2)] at i6
              refine i6.takeB fun z hz v hv => ?_
              have mz : M z := i6.memB (List.mem_append_left _ hz)
              rw [dx] at hv i6
              exact head_all L i6.sa mx mz (fun z hz => i6.memA (List.mem_cons_of_mem _ hz)) (f4 z hz) v hv
            (lcg_src; lcg_sub)
            (extract_lets +onlyGivenNames -underBinder -merge -useContext J3; clear_value (hJ3 : J3 = _))
            have j3 : ∀ (out3 : Array Keyed) (ib3 : Nat), ib + 1 ≤ ib3 → LI M c all out3.toList (a.toList.drop ia2) (b.toList.drop ib3) → (∀ z ∈ b.toList.drop ib3, c z x = false) → ib3 < b.size → wpS (model prog w) A E s (J3 () out3 ib3) (TsR (LoD M c all a b st k) fun r st' => ∃ k'', k'' < k' ∧ LoI M c all a b st k k'' r st') (Gs st mg') := fun out3 ib3 hle3 i8 f6 hb3 => by
              rw [hJ3]
              lcg_src
              refine wpS_bind (ts_elem hx ?_)
              (lcg_src; lcg_sub; lcg_sub)
              have i9 : LI M c all (out3.push x).toList (a.toList.drop (ia2 + 1)) (b.toList.drop ib3) := by
                rw [Array.toList_push]
                rw [dx] at i8
                refine LI.takeA (A1 := [x]) i8 fun z hz v hv => ?_
                rw [List.mem_singleton.mp hz]
                exact L.tot _ _ (i8.memB hv) mx (fun z => i8.ne (x := x) List.mem_cons_self hv z.symm) (f6 v hv)
              refine wpS_ite (fun e1 => wpS_pure ⟨_, rfl, .inl ⟨_, rfl, lastA i9 (eq_of_beq e1)⟩⟩) fun e1 => ?_
              have e1 : ia2 + 1 + 1 ≠ a.size := by simpa using e1
              refine wpS_ite (fun _ => wpS_pure ⟨_, rfl, .inr ⟨rfl, i9, by dsimp only; omega, by dsimp only; omega, by dsimp only; omega, by dsimp only; omega⟩⟩) fun _ => ?_
              exact wpS_pure ⟨_, show a.size - (ia2 + 1) + (b.size - ib3) < k' by omega, _, rfl, rfl, i9, by dsimp only; omega, by dsimp only; omega, by dsimp only; omega, rfl, by omega⟩
            refine wpS_ite (fun g1 => ?_) fun g1 => ?_
            · (lcg_src; lcg_sub; lcg_sub)
              have e0 : (out2.push y ++ b.extract (ib + 1) (ib + 1 + k2)).toList = (out2.push y).toList ++ (b.toList.drop (ib + 1)).take k2 := by rw [Array.toList_append, ext_take]
              rw [← e0] at i7
              refine wpS_ite (fun e1 => wpS_pure ⟨_, rfl, .inl ⟨_, rfl, doneB i7 (eq_of_beq e1)⟩⟩) fun e1 => ?_
              have e1 : ib + 1 + k2 ≠ b.size := by simpa using e1
              exact j3 _ _ (by omega) i7 f5 (by omega)
            · obtain rfl : k2 = 0 := by omega
              exact j3 _ _ (Nat.le_refl _) i6 f5 (by omega)
          refine wpS_ite (fun g1 => ?_) fun g1 => ?_
          · (lcg_src; lcg_sub; lcg_sub)
            have e0 : (out ++ a.extract ia (ia + k1)).toList = out.toList ++ (a.toList.drop ia).take k1 := by rw [Array.toList_append, ext_take]
            rw [← e0] at i4
            refine wpS_ite (fun e1 => wpS_pure ⟨_, rfl, .inl ⟨_, rfl, lastA i4 (eq_of_beq e1)⟩⟩) fun e1 => ?_
            have e1 : ia + k1 + 1 ≠ a.size := by simpa using e1
            refine wpS_ite (fun e2 => wpS_pure ⟨_, rfl, .inl ⟨_, rfl, doneA i4 (eq_of_beq e2)⟩⟩) fun e2 => ?_
            have e2 : ia + k1 ≠ a.size := by simpa using e2
            exact j2 _ _ (by omega) i4 f2 (by omega)
          · obtain rfl : k1 = 0 := by omega
            exact j2 _ _ (Nat.le_refl _) i3 f2 ha
        exact wpS_ite (fun _ => j1 _) fun _ => j1 _
      · rw [List.length_range']; dsimp only; omega
      · rintro ⟨r0, out, ia, ib, mg, ac, bc⟩ st' ⟨g, rfl, ⟨o, rfl, p1, p2⟩ | ⟨rfl, i3, ha, hb, hp, hk3⟩⟩
        · exact wpS_pure ⟨o, g, rfl, rfl, p1, p2⟩
        · dsimp only at i3 ha hb hp hk3
          (lcg_src; lcg_sub; lcg_sub; lcg_sub; lcg_sub; lcg_sub; lcg_sub; lcg_sub; lcg_sub; lcg_sub; lcg_sub)
          refine wpS_bind (ts_min ?_)
          exact wpS_pure ⟨_, hk3, _, rfl, rfl, i3, ha, hb, hp, rfl⟩
  · rintro ⟨r0, out, ia, ib, mg⟩ st' ⟨o, g, rfl, rfl, p1, p2⟩
    exact wpS_pure (q o g p1 p2)
end
end TS
namespace TS
local macro_rules | `(tactic| lcg_src) => `(tactic| try dsimp (zeta := false) (zetaUnused := false) only)
local macro_rules | `(tactic| lcg_sub) => `(tactic| (extract_lets +onlyGivenNames -underBinder -merge -useContext zz; subst zz; try dsimp (zeta := false) (zetaUnused := false) only))
open PySem PySem.W PyProof.Rows
local macro_rules | `(term| type_of% $n:ident) => return Lean.mkIdent (Lean.mkPrivateNameCore `PySem.Builtin.List.W1All (`PySem.Builtin ++ n.getId))
local macro_rules | `(tactic| delta $n:ident) => if Lean.isPrivateName n.getId then Lean.Macro.throwUnsupported else `(tactic| delta $(Lean.mkIdent (Lean.mkPrivateNameCore `PySem.Builtin.List.W1All (`PySem.Builtin ++ n.getId))):ident)
section
variable {prog : Program} {w : World} {A : Around} {s : Shared} {E : Value → Shared → Prop} {κ : SortKind} {M : Keyed → Prop} {c : Keyed → Keyed → Bool}
variable {a b : Array Keyed} {all : List Keyed}
theorem ext_zero {n : Nat} : (a.extract 0 n).toList = a.toList.take n := by
  rw [Array.toList_extract, List.extract_eq_take_drop, List.drop_zero]; rfl
theorem ext_mid {i n : Nat} : (a.extract i n).toList = (a.toList.take n).drop i := by
  rw [Array.toList_extract, List.extract_eq_take_drop, List.drop_take]
theorem take_at {n : Nat} (h0 : 0 < n) (h : n ≤ a.size) : ∃ x, a[n - 1]? = some x ∧ a.toList.take n = a.toList.take (n - 1) ++ [x] := by
  have h1 : n - 1 < a.toList.length := by rw [Array.length_toList]; omega
  refine ⟨a.toList[n - 1], by rw [← Array.getElem?_toList, List.getElem?_eq_getElem h1], ?_⟩
  have := List.take_append_getElem (l := a.toList) (i := n - 1) h1
  rw [show n - 1 + 1 = n by omega] at this
  exact this.symm
theorem take_split {i n : Nat} (h : i ≤ n) : a.toList.take n = a.toList.take i ++ (a.toList.take n).drop i := by
  have := (List.take_append_drop i (a.toList.take n)).symm
  rw [List.take_take, Nat.min_eq_left h] at this
  exact this
theorem last_all (L : Cmp prog w A s κ M c) {x y : Keyed} {l : List Keyed} (h : Srt c (l ++ [x])) (mx : M x) (my : M y) (ml : ∀ z ∈ l, M z) (e : c x y = true) : ∀ z ∈ l ++ [x], c z y = true := fun z hz => by
  rcases List.mem_append.mp hz with hz | hz
  · exact L.trans _ _ _ (ml z hz) mx my ((List.pairwise_append.mp h).2.2 z hz x List.mem_cons_self) e
  · rw [List.mem_singleton.mp hz]; exact e
abbrev HiD (M : Keyed → Prop) (c : Keyed → Keyed → Bool) (all : List Keyed) (a b : Array Keyed) (st : SortSt) (k : Nat) (r : Option (Array Keyed) × Nat × Nat × Array Keyed × Nat × Nat × Nat) (st' : SortSt) : Prop :=
  ∃ g, st' = Gs st g ∧ ((∃ out, r.1 = some out ∧ out.toList.Perm all ∧ Srt c out.toList) ∨ (r.1 = none ∧ HI M c all (a.toList.take r.2.1) (b.toList.take r.2.2.1) r.2.2.2.1.toList.reverse ∧ 0 < r.2.1 ∧ r.2.1 < a.size ∧ 1 < r.2.2.1 ∧ r.2.2.1 ≤ b.size ∧ r.2.1 + r.2.2.1 < k))
abbrev HiI (M : Keyed → Prop) (c : Keyed → Keyed → Bool) (all : List Keyed) (a b : Array Keyed) (st : SortSt) (k k' : Nat) (r : Option (Array Keyed) × Nat × Nat × Array Keyed × Nat × Nat × Nat) (st' : SortSt) : Prop :=
  ∃ g, st' = Gs st g ∧ r.1 = none ∧ HI M c all (a.toList.take r.2.1) (b.toList.take r.2.2.1) r.2.2.2.1.toList.reverse ∧ 0 < r.2.1 ∧ r.2.1 < a.size ∧ 1 < r.2.2.1 ∧ r.2.2.1 ≤ b.size ∧ k' = r.2.1 + r.2.2.1 ∧ k' < k
theorem ts_hi (L : Cmp prog w A s κ M c) {st : SortSt} {Q : Array Keyed → SortSt → Prop} (h : HI M c all a.toList b.toList []) (na : 0 < a.size) (nb : 0 < b.size)
    (h0 : ∀ x ∈ b.toList.take 1, ∀ y ∈ a.toList, c x y = true) (hl : ∀ x ∈ b.toList, ∀ y, a[a.size - 1]? = some y → c x y = true) (hk : PyProof.Rows.kindOf st = κ)
    (q : ∀ r g, r.toList.Perm all → Srt c r.toList → Q r (Gs st g)) : wpS (model prog w) A E s (tsHi a b) Q st := by
  have eD : ∀ (out : Array Keyed) na nb, (a.extract 0 na ++ b.extract 0 nb ++ out.reverse).toList = a.toList.take na ++ b.toList.take nb ++ out.toList.reverse := fun out na nb => by
    rw [Array.toList_append, Array.toList_append, ext_zero, ext_zero, Array.toList_reverse]
  have eL : ∀ (out : Array Keyed) na nb, (b.extract 0 nb ++ a.extract 0 na ++ out.reverse).toList = b.toList.take nb ++ a.toList.take na ++ out.toList.reverse := fun out na nb => by
    rw [Array.toList_append, Array.toList_append, ext_zero, ext_zero, Array.toList_reverse]
  have firstB : ∀ {out : Array Keyed} {na nb : Nat}, HI M c all (a.toList.take na) (b.toList.take nb) out.toList.reverse → nb = 1 → (b.extract 0 nb ++ a.extract 0 na ++ out.reverse).toList.Perm all ∧ Srt c (b.extract 0 nb ++ a.extract 0 na ++ out.reverse).toList := fun {out na nb} h e => by
    rw [eL]
    refine h.finL fun x hx y hy => h0 x ?_ y (List.mem_of_mem_take hy)
    rw [e] at hx
    exact hx
  have doneA : ∀ {out : Array Keyed} {na nb : Nat}, HI M c all (a.toList.take na) (b.toList.take nb) out.toList.reverse → na = 0 → (a.extract 0 na ++ b.extract 0 nb ++ out.reverse).toList.Perm all ∧ Srt c (a.extract 0 na ++ b.extract 0 nb ++ out.reverse).toList := fun {out na nb} h e => by
    rw [eD]
    exact h.finA (by rw [e, List.take_zero])
  have doneB : ∀ {out : Array Keyed} {na nb : Nat}, HI M c all (a.toList.take na) (b.toList.take nb) out.toList.reverse → nb = 0 → (a.extract 0 na ++ b.extract 0 nb ++ out.reverse).toList.Perm all ∧ Srt c (a.extract 0 na ++ b.extract 0 nb ++ out.reverse).toList := fun {out na nb} h e => by
    rw [eD]
    exact h.finB (by rw [e, List.take_zero])
  have ePush : ∀ (out : Array Keyed) (x : Keyed), (out.push x).toList.reverse = [x] ++ out.toList.reverse := fun out x => by
    rw [Array.toList_push, List.reverse_append]; rfl
  have eExt : ∀ (out d : Array Keyed) i n, (out ++ (d.extract i n).reverse).toList.reverse = (d.toList.take n).drop i ++ out.toList.reverse := fun out d i n => by
    rw [Array.toList_append, Array.toList_reverse, List.reverse_append, List.reverse_reverse, ext_mid]
  have hkg : ∀ g, PyProof.Rows.kindOf (Gs st g) = κ := fun _ => hk
  have fullA : a.toList.take a.size = a.toList := List.take_of_length_le (by rw [Array.length_toList]; exact Nat.le_refl _)
  have fullB : b.toList.take b.size = b.toList := List.take_of_length_le (by rw [Array.length_toList]; exact Nat.le_refl _)
  unfold tsHi
  delta mergeHi
  lcg_src
  refine wpS_bind (ts_rule ?_)
  (lcg_src; lcg_sub; lcg_sub; lcg_sub; lcg_sub; lcg_sub)
  obtain ⟨a0, ha0, da0⟩ := take_at (a := a) na (Nat.le_refl _)
  refine wpS_bind (ts_elem ha0 ?_)
  (lcg_src; lcg_sub)
  have i1 : HI M c all (a.toList.take (a.size - 1)) (b.toList.take b.size) (#[a0] : Array Keyed).toList.reverse := by
    have := HI.takeA (out := []) (A1 := a.toList.take (a.size - 1)) (A2 := [a0]) (B := b.toList) (by rw [← da0, fullA]; exact h) fun x hx y hy => by
      rw [List.mem_singleton.mp hy]; exact hl x hx a0 ha0
    rw [fullB]
    exact this
  refine wpS_ite (fun e1 => ?_) fun e1 => ?_
  · have := doneA i1 (eq_of_beq e1)
    exact wpS_pure (q _ (gallopOf st) this.1 this.2)
  have e1 : a.size - 1 ≠ 0 := by simpa using e1
  refine wpS_ite (fun e2 => ?_) fun e2 => ?_
  · have := firstB i1 (eq_of_beq e2)
    exact wpS_pure (q _ (gallopOf st) this.1 this.2)
  have e2 : b.size ≠ 1 := by simpa using e2
  refine wpS_bind (wpS_get ?_)
  (lcg_src; lcg_sub)
  refine wpS_bind ?_
  rw [range_list]
  refine wpS_mono (Q := fun (r : Option (Array Keyed) × Nat × Nat × Array Keyed × Nat) st' => ∃ out g, r.1 = some out ∧ st' = Gs st g ∧ out.toList.Perm all ∧ Srt c out.toList)
    (ts_fuel (fun k (r : Option (Array Keyed) × Nat × Nat × Array Keyed × Nat) st' => ∃ g, st' = Gs st g ∧ r.1 = none ∧ HI M c all (a.toList.take r.2.1) (b.toList.take r.2.2.1) r.2.2.2.1.toList.reverse ∧ 0 < r.2.1 ∧ r.2.1 < a.size ∧ 1 < r.2.2.1 ∧ r.2.2.1 ≤ b.size ∧ k = r.2.1 + r.2.2.1) ?_ _ (a.size - 1 + b.size) _ _ (by rw [List.length_range']; omega) ⟨gallopOf st, rfl, rfl, i1, by dsimp only; omega, by dsimp only; omega, by dsimp only; omega, by dsimp only; omega, rfl⟩) ?_
  · rintro _ k ⟨r0, na, nb, out, mg⟩ st' ⟨g, rfl, rfl, i2, ha1, ha2, hb1, hb2, hk2⟩
    dsimp only at i2 ha1 ha2 hb1 hb2 hk2
    (lcg_src; lcg_sub; lcg_sub; lcg_sub; lcg_sub; lcg_sub; lcg_sub; lcg_sub; lcg_sub; lcg_sub)
    refine wpS_bind ?_
    rw [range_list]
    refine wpS_mono (Q := fun (r : Option (Array Keyed) × Nat × Nat × Array Keyed × Nat × Nat) st' => st' = Gs st g ∧ ((∃ out, r.1 = some out ∧ out.toList.Perm all ∧ Srt c out.toList) ∨ (r.1 = none ∧ HI M c all (a.toList.take r.2.1) (b.toList.take r.2.2.1) r.2.2.2.1.toList.reverse ∧ 0 < r.2.1 ∧ r.2.1 < a.size ∧ 1 < r.2.2.1 ∧ r.2.2.1 ≤ b.size ∧ r.2.1 + r.2.2.1 < k)))
      (ts_fuel (fun k' (r : Option (Array Keyed) × Nat × Nat × Array Keyed × Nat × Nat) st' => st' = Gs st g ∧ r.1 = none ∧ HI M c all (a.toList.take r.2.1) (b.toList.take r.2.2.1) r.2.2.2.1.toList.reverse ∧ 0 < r.2.1 ∧ r.2.1 < a.size ∧ 1 < r.2.2.1 ∧ r.2.2.1 ≤ b.size ∧ k' = r.2.1 + r.2.2.1 ∧ k' ≤ k) ?_ _ k _ _ ?_ ⟨rfl, rfl, i2, ha1, ha2, hb1, hb2, hk2, Nat.le_refl _⟩) ?_
    · rintro _ k' ⟨r0, na, nb, out, ac, bc⟩ st' ⟨rfl, rfl, i3, ha1, ha2, hb1, hb2, hk3, hkk⟩
      dsimp only at i3 ha1 ha2 hb1 hb2 hk3
      (lcg_src; lcg_sub; lcg_sub; lcg_sub; lcg_sub; lcg_sub; lcg_sub; lcg_sub; lcg_sub; lcg_sub)
      obtain ⟨y, hy, dy⟩ := take_at (a := b) (n := nb) (by omega) hb2
      obtain ⟨x, hx, dx⟩ := take_at (a := a) (n := na) ha1 (by omega)
      have hyB : y ∈ b.toList.take nb := by rw [dy]; simp
      have hxA : x ∈ a.toList.take na := by rw [dx]; simp
      have my : M y := i3.memB hyB
      have mx : M x := i3.memA hxA
      refine wpS_bind (ts_elem hy (wpS_bind (ts_elem hx (wpS_bind (ts_lt L my mx (hkg g) ?_)))))
      lcg_src
      cases e : c y x with
      | true =>
        refine wpS_ite (fun _ => ?_) fun z => absurd rfl z
        (lcg_src; lcg_sub)
        refine wpS_bind (ts_elem hx ?_)
        (lcg_src; lcg_sub; lcg_sub; lcg_sub)
        have i4 : HI M c all (a.toList.take (na - 1)) (b.toList.take nb) (out.push x).toList.reverse := by
          rw [ePush]
          rw [dx] at i3
          refine HI.takeA (A2 := [x]) i3 fun z hz v hv => ?_
          rw [List.mem_singleton.mp hv]
          rw [dy] at hz i3
          exact last_all L i3.sb my mx (fun z hz => i3.memB (List.mem_append_left _ hz)) e z hz
        refine wpS_ite (fun e1 => wpS_pure ⟨rfl, .inl ⟨_, rfl, doneA i4 (eq_of_beq e1)⟩⟩) fun e1 => ?_
        have e1 : na - 1 ≠ 0 := by simpa using e1
        refine wpS_ite (fun _ => wpS_pure ⟨rfl, .inr ⟨rfl, i4, by dsimp only; omega, by dsimp only; omega, by dsimp only; omega, by dsimp only; omega, by dsimp only; omega⟩⟩) fun _ => ?_
        exact wpS_pure ⟨_, show na - 1 + nb < k' by omega, rfl, rfl, i4, by dsimp only; omega, by dsimp only; omega, by dsimp only; omega, by dsimp only; omega, rfl, by omega⟩
      | false =>
        refine wpS_ite (fun z => nomatch z) fun _ => ?_
        (lcg_src; lcg_sub)
        refine wpS_bind (ts_elem hy ?_)
        (lcg_src; lcg_sub; lcg_sub; lcg_sub)
        have e' : c x y = true := L.tot _ _ my mx (fun z => i3.ne hxA hyB z.symm) e
        have i4 : HI M c all (a.toList.take na) (b.toList.take (nb - 1)) (out.push y).toList.reverse := by
          rw [ePush]
          rw [dy] at i3
          refine HI.takeB (B2 := [y]) i3 fun z hz v hv => ?_
          rw [List.mem_singleton.mp hv]
          rw [dx] at hz i3
          exact last_all L i3.sa mx my (fun z hz => i3.memA (List.mem_append_left _ hz)) e' z hz
        refine wpS_ite (fun e1 => wpS_pure ⟨rfl, .inl ⟨_, rfl, firstB i4 (eq_of_beq e1)⟩⟩) fun e1 => ?_
        have e1 : nb - 1 ≠ 1 := by simpa using e1
        refine wpS_ite (fun _ => wpS_pure ⟨rfl, .inr ⟨rfl, i4, by dsimp only; omega, by dsimp only; omega, by dsimp only; omega, by dsimp only; omega, by dsimp only; omega⟩⟩) fun _ => ?_
        exact wpS_pure ⟨_, show na + (nb - 1) < k' by omega, rfl, rfl, i4, by dsimp only; omega, by dsimp only; omega, by dsimp only; omega, by dsimp only; omega, rfl, by omega⟩
    · rw [List.length_range']; omega
    · rintro ⟨r0, na, nb, out, ac, bc⟩ st' ⟨rfl, ⟨o, rfl, p1, p2⟩ | ⟨rfl, i3, ha1, ha2, hb1, hb2, hk3⟩⟩
      · exact wpS_pure ⟨o, g, rfl, rfl, p1, p2⟩
      dsimp only at i3 ha1 ha2 hb1 hb2 hk3
      (lcg_src; lcg_sub; lcg_sub; lcg_sub; lcg_sub; lcg_sub; lcg_sub; lcg_sub; lcg_sub; lcg_sub; lcg_sub)
      refine wpS_bind (ts_rule ?_)
      (lcg_src; lcg_sub)
      refine wpS_bind ?_
      rw [range_list]
      refine wpS_mono (Q := HiD M c all a b st k) (ts_fuel (HiI M c all a b st k) ?_ _ _ _ _ ?_ ⟨g, rfl, rfl, i3, ha1, ha2, hb1, hb2, rfl, hk3⟩) ?_
      · rintro _ k' ⟨r0, na, nb, out, mg, ac, bc⟩ st' ⟨g, rfl, rfl, i3, ha1, ha2, hb1, hb2, hk3, hkk⟩
        dsimp only at i3 ha1 ha2 hb1 hb2 hk3
        (lcg_src; lcg_sub; lcg_sub; lcg_sub; lcg_sub; lcg_sub; lcg_sub; lcg_sub; lcg_sub; lcg_sub; lcg_sub; lcg_sub)
        (extract_lets +onlyGivenNames -underBinder -merge -useContext J1; clear_value (hJ1 : J1 = _))
        have j1 : ∀ mg', wpS (model prog w) A E s (J1 () mg') (TsR (HiD M c all a b st k) fun r st' => ∃ k'', k'' < k' ∧ HiI M c all a b st k k'' r st') (Gs st g) := fun mg' => by
          rw [hJ1]
          lcg_src
          refine wpS_bind (ts_min ?_)
          obtain ⟨y, hy, dy⟩ := take_at (a := b) (n := nb) (by omega) hb2
          have hyB : y ∈ b.toList.take nb := by rw [dy]; simp
          have my : M y := i3.memB hyB
          refine wpS_bind (ts_elem hy ?_)
          refine wpS_bind (gal_false L (by omega) (by rw [List.drop_zero]; exact i3.sa) (fun x hx => i3.memA (by rw [List.drop_zero] at hx; exact hx)) my (by omega) (hkg _) fun k1 hk1 f1 f2 => ?_)
          rw [List.drop_zero] at f1 f2
          (lcg_src; lcg_sub; lcg_sub)
          have i4 : HI M c all (a.toList.take k1) (b.toList.take nb) ((a.toList.take na).drop k1 ++ out.toList.reverse) := by
            rw [take_split hk1] at i3
            refine i3.takeA fun z hz v hv => ?_
            have mv : M v := i3.memA (List.mem_append_right _ hv)
            rw [dy] at hz i3
            exact last_all L i3.sb my mv (fun z hz => i3.memB (List.mem_append_left _ hz)) (f2 v hv) z hz
          (extract_lets +onlyGivenNames -underBinder -merge -useContext J2; clear_value (hJ2 : J2 = _))
          have j2 : ∀ (na2 : Nat) (out2 : Array Keyed), na2 ≤ na → HI M c all (a.toList.take na2) (b.toList.take nb) out2.toList.reverse → (∀ x ∈ a.toList.take na2, c y x = false) → 0 < na2 → wpS (model prog w) A E s (J2 () na2 out2) (TsR (HiD M c all a b st k) fun r st' => ∃ k'', k'' < k' ∧ HiI M c all a b st k k'' r st') (Gs st mg') := fun na2 out2 hle i5 f3 hn2 => by
            rw [hJ2]
            (lcg_src; lcg_sub)
            refine wpS_bind (ts_elem hy ?_)
            (lcg_src; lcg_sub)
            have i6 : HI M c all (a.toList.take na2) (b.toList.take (nb - 1)) (out2.push y).toList.reverse := by
              rw [ePush]
              rw [dy] at i5
              refine HI.takeB (B2 := [y]) i5 fun z hz v hv => ?_
              rw [List.mem_singleton.mp hv]
              exact L.tot _ _ my (i5.memA hz) (fun e => i5.ne hz (List.mem_append_right _ List.mem_cons_self) e.symm) (f3 z hz)
            refine wpS_ite (fun e1 => wpS_pure ⟨_, rfl, .inl ⟨_, rfl, firstB i6 (eq_of_beq e1)⟩⟩) fun e1 => ?_
            have e1 : nb - 1 ≠ 1 := by simpa using e1
            obtain ⟨x, hx, dx⟩ := take_at (a := a) (n := na2) hn2 (by omega)
            have hxA : x ∈ a.toList.take na2 := by rw [dx]; simp
            have mx : M x := i6.memA hxA
            refine wpS_bind (ts_elem hx ?_)
            refine wpS_bind (gal_true L (by omega) (by rw [List.drop_zero]; exact i6.sb) (fun x hx => i6.memB (by rw [List.drop_zero] at hx; exact hx)) mx (by omega) (hkg _) fun k2 hk2' f4 f5 => ?_)
            rw [List.drop_zero] at f4 f5
            (lcg_src; lcg_sub; lcg_sub)
            have i7 : HI M c all (a.toList.take na2) (b.toList.take k2) ((b.toList.take (nb - 1)).drop k2 ++ (out2.push y).toList.reverse) := by
              rw [take_split hk2'] at i6
              refine i6.takeB fun z hz v hv => ?_
              have mv : M v := i6.memB (List.mem_append_right _ hv)
              have e' := L.tot _ _ mv mx (fun e => i6.ne hxA (List.mem_append_right _ hv) e.symm) (f5 v hv)
              rw [dx] at hz i6
              exact last_all L i6.sa mx mv (fun z hz => i6.memA (List.mem_append_left _ hz)) e' z hz
            (extract_lets +onlyGivenNames -underBinder -merge -useContext J3; clear_value (hJ3 : J3 = _))
            have j3 : ∀ (nb3 : Nat) (out3 : Array Keyed), nb3 ≤ nb - 1 → HI M c all (a.toList.take na2) (b.toList.take nb3) out3.toList.reverse → (∀ z ∈ b.toList.take nb3, c z x = true) → 1 < nb3 → wpS (model prog w) A E s (J3 () nb3 out3) (TsR (HiD M c all a b st k) fun r st' => ∃ k'', k'' < k' ∧ HiI M c all a b st k k'' r st') (Gs st mg') := fun nb3 out3 hle3 i8 f6 hb3 => by
              rw [hJ3]
              (lcg_src; lcg_sub)
              refine wpS_bind (ts_elem hx ?_)
              (lcg_src; lcg_sub)
              have i9 : HI M c all (a.toList.take (na2 - 1)) (b.toList.take nb3) (out3.push x).toList.reverse := by
                rw [ePush]
                rw [dx] at i8
                refine HI.takeA (A2 := [x]) i8 fun z hz v hv => ?_
                rw [List.mem_singleton.mp hv]
                exact f6 z hz
              refine wpS_ite (fun e1 => wpS_pure ⟨_, rfl, .inl ⟨_, rfl, doneA i9 (eq_of_beq e1)⟩⟩) fun e1 => ?_
              have e1 : na2 - 1 ≠ 0 := by simpa using e1
              refine wpS_ite (fun _ => wpS_pure ⟨_, rfl, .inr ⟨rfl, i9, by dsimp only; omega, by dsimp only; omega, by dsimp only; omega, by dsimp only; omega, by dsimp only; omega⟩⟩) fun _ => ?_
              exact wpS_pure ⟨_, show na2 - 1 + nb3 < k' by omega, _, rfl, rfl, i9, by dsimp only; omega, by dsimp only; omega, by dsimp only; omega, by dsimp only; omega, rfl, by omega⟩
            refine wpS_ite (fun g1 => ?_) fun g1 => ?_
            · (lcg_src; lcg_sub; lcg_sub)
              rw [← eExt] at i7
              refine wpS_ite (fun e1 => wpS_pure ⟨_, rfl, .inl ⟨_, rfl, firstB i7 (eq_of_beq e1)⟩⟩) fun e1 => ?_
              have e1 : k2 ≠ 1 := by simpa using e1
              refine wpS_ite (fun e2 => wpS_pure ⟨_, rfl, .inl ⟨_, rfl, doneB i7 (eq_of_beq e2)⟩⟩) fun e2 => ?_
              have e2 : k2 ≠ 0 := by simpa using e2
              exact j3 _ _ (by omega) i7 f4 (by omega)
            · obtain rfl : k2 = nb - 1 := by omega
              exact j3 _ _ (Nat.le_refl _) i6 f4 (by omega)
          refine wpS_ite (fun g1 => ?_) fun g1 => ?_
          · (lcg_src; lcg_sub; lcg_sub)
            rw [← eExt] at i4
            refine wpS_ite (fun e1 => wpS_pure ⟨_, rfl, .inl ⟨_, rfl, doneA i4 (eq_of_beq e1)⟩⟩) fun e1 => ?_
            have e1 : k1 ≠ 0 := by simpa using e1
            exact j2 _ _ (by omega) i4 f1 (by omega)
          · obtain rfl : k1 = na := by omega
            exact j2 _ _ (Nat.le_refl _) i3 f1 ha1
        exact wpS_ite (fun _ => j1 _) fun _ => j1 _
      · rw [List.length_range']; dsimp only; omega
      · rintro ⟨r0, na, nb, out, mg, ac, bc⟩ st' ⟨g, rfl, ⟨o, rfl, p1, p2⟩ | ⟨rfl, i3, ha1, ha2, hb1, hb2, hk3⟩⟩
        · exact wpS_pure ⟨o, g, rfl, rfl, p1, p2⟩
        · dsimp only at i3 ha1 ha2 hb1 hb2 hk3
          (lcg_src; lcg_sub; lcg_sub; lcg_sub; lcg_sub; lcg_sub; lcg_sub; lcg_sub; lcg_sub; lcg_sub; lcg_sub)
          refine wpS_bind (ts_min ?_)
          exact wpS_pure ⟨_, hk3, _, rfl, rfl, i3, ha1, ha2, hb1, hb2, rfl⟩
  · rintro ⟨r0, na, nb, out, mg⟩ st' ⟨o, g, rfl, rfl, p1, p2⟩
    exact wpS_pure (q o g p1 p2)
end
end TS
namespace TS
local macro_rules | `(tactic| lcg_src) => `(tactic| try dsimp (zeta := false) (zetaUnused := false) only)
local macro_rules | `(tactic| lcg_sub) => `(tactic| (extract_lets +onlyGivenNames -underBinder -merge -useContext zz; subst zz; try dsimp (zeta := false) (zetaUnused := false) only))
open PySem PySem.W PyProof.Rows
local macro_rules | `(term| type_of% $n:ident) => return Lean.mkIdent (Lean.mkPrivateNameCore `PySem.Builtin.List.W1All (`PySem.Builtin ++ n.getId))
local macro_rules | `(tactic| delta $n:ident) => if Lean.isPrivateName n.getId then Lean.Macro.throwUnsupported else `(tactic| delta $(Lean.mkIdent (Lean.mkPrivateNameCore `PySem.Builtin.List.W1All (`PySem.Builtin ++ n.getId))):ident)
section
variable {prog : Program} {w : World} {A : Around} {s : Shared} {E : Value → Shared → Prop} {κ : SortKind} {M : Keyed → Prop} {c : Keyed → Keyed → Bool}
abbrev Ms (κ : SortKind) (arr : Array Keyed) (p : Array (Nat × Nat × Nat)) (g : Nat) : SortSt := SortSt.mk' κ arr p g none
theorem ts_set {st st' : SortSt} {Q : PUnit → SortSt → Prop} (q : Q ⟨⟩ st') : wpS (model prog w) A E s (set st') Q st := by
  have : (set st' : StateT SortSt Sem PUnit) = modify fun _ => st' := rfl
  rw [this]
  exact wpS_modify q
theorem put_all {sa : Nat} : ∀ (l : List Keyed) (n : Nat) (arr : Array Keyed), sa + n + l.length ≤ arr.size →
    ((l.zipIdx n).foldl (fun (a : Array Keyed) (x : Keyed × Nat) => match x with | (p, j) => a.setIfInBounds (sa + j) p) arr).toList = arr.toList.take (sa + n) ++ l ++ arr.toList.drop (sa + n + l.length)
  | [], n, arr, h => by
    rw [List.zipIdx_nil, List.foldl_nil, List.append_nil, List.length_nil, Nat.add_zero, List.take_append_drop]
  | x :: l, n, arr, h => by
    rw [List.length_cons] at h
    rw [List.zipIdx_cons, List.foldl_cons]
    dsimp only
    rw [put_all l (n + 1) _ (by rw [Array.size_setIfInBounds]; omega), Array.toList_setIfInBounds]
    have hl : sa + n < arr.toList.length := by rw [Array.length_toList]; omega
    rw [show sa + (n + 1) = sa + n + 1 by omega, List.take_succ_eq_append_getElem (by rw [List.length_set]; exact hl), List.getElem_set_self, List.take_set_of_le (Nat.le_refl _), List.length_cons, List.drop_set_of_lt (by omega), show sa + n + 1 + l.length = sa + n + (l.length + 1) by omega, List.append_assoc, List.append_assoc, List.append_assoc]
    rfl
theorem ts_mergeAt (L : Cmp prog w A s κ M c) {arr : Array Keyed} {pend : Array (Nat × Nat × Nat)} {g i sa na p1 sb nb p2 : Nat} {Q : Bool → SortSt → Prop} (h1 : pend[i]? = some (sa, na, p1)) (h2 : pend[i + 1]? = some (sb, nb, p2)) (hsb : sb = sa + na)
    (hsz : sb + nb ≤ arr.size) (na0 : 0 < na) (nb0 : 0 < nb) (sA : Srt c ((arr.toList.drop sa).take na)) (sB : Srt c ((arr.toList.drop sb).take nb)) (mm : ∀ x ∈ arr.toList, M x) (nd : arr.toList.Nodup)
    (q : ∀ arr' g' m, arr'.toList = arr.toList.take sa ++ m ++ arr.toList.drop (sb + nb) → m.Perm ((arr.toList.drop sa).take (na + nb)) → Srt c m → Q true (Ms κ arr' ((pend.setIfInBounds i (sa, na + nb, p1)).eraseIdxIfInBounds (i + 1)) g')) :
    wpS (model prog w) A E s (mergeAt' i) Q (Ms κ arr pend g) := by
  have lenA : ((arr.toList.drop sa).take na).length = na := by rw [List.length_take, List.length_drop, Array.length_toList]; omega
  have lenB : ((arr.toList.drop sb).take nb).length = nb := by rw [List.length_take, List.length_drop, Array.length_toList]; omega
  have eAB : (arr.toList.drop sa).take (na + nb) = (arr.toList.drop sa).take na ++ (arr.toList.drop sb).take nb := by rw [List.take_add, List.drop_drop, hsb]
  have eAll : arr.toList = arr.toList.take sa ++ ((arr.toList.drop sa).take na ++ (arr.toList.drop sb).take nb) ++ arr.toList.drop (sb + nb) := by
    rw [← eAB, hsb, Nat.add_assoc, ← List.drop_drop, List.append_assoc, List.take_append_drop, List.take_append_drop]
  have mA : ∀ x ∈ (arr.toList.drop sa).take na, M x := fun x hx => mm x (List.mem_of_mem_drop (List.mem_of_mem_take hx))
  have mB : ∀ x ∈ (arr.toList.drop sb).take nb, M x := fun x hx => mm x (List.mem_of_mem_drop (List.mem_of_mem_take hx))
  have ndAB : ((arr.toList.drop sa).take na ++ (arr.toList.drop sb).take nb).Nodup := by
    rw [eAll] at nd
    exact (List.nodup_append.mp (List.nodup_append.mp nd).1).2.1
  have neAB : ∀ x ∈ (arr.toList.drop sa).take na, ∀ y ∈ (arr.toList.drop sb).take nb, x ≠ y := fun x hx y hy => (List.nodup_append.mp ndAB).2.2 x hx y hy
  have q' : ∀ arr' g' m, arr'.toList = arr.toList.take sa ++ m ++ arr.toList.drop (sb + nb) → m.Perm ((arr.toList.drop sa).take na ++ (arr.toList.drop sb).take nb) → Srt c m → Q true (Ms κ arr' ((pend.setIfInBounds i (sa, na + nb, p1)).eraseIdxIfInBounds (i + 1)) g') := fun arr' g' m a1 a2 a3 => q arr' g' m a1 (by rw [eAB]; exact a2) a3
  have hb0 : sb < arr.size := by omega
  obtain ⟨b0, hb0, db0⟩ := drop_at hb0
  have tb0 : (arr.toList.drop sb).take nb = b0 :: (arr.toList.drop (sb + 1)).take (nb - 1) := by
    rw [db0, show nb = (nb - 1) + 1 by omega, List.take_succ_cons]; rfl
  have mb0 : M b0 := mB _ (by rw [tb0]; exact List.mem_cons_self)
  generalize hA : (arr.toList.drop sa).take na = lA at *
  generalize hB : (arr.toList.drop sb).take nb = lB at *
  have same : (∀ x ∈ lA, ∀ y ∈ lB, c x y = true) → Q true (Ms κ arr ((pend.setIfInBounds i (sa, na + nb, p1)).eraseIdxIfInBounds (i + 1)) g) := fun hlt => q' arr g (lA ++ lB) eAll (List.Perm.refl _) (List.pairwise_append.mpr ⟨sA, sB, hlt⟩)
  show wpS (model prog w) A E s ((type_of% mergeAt) i) Q (Ms κ arr pend g)
  delta mergeAt
  lcg_src
  refine wpS_bind (wpS_get ?_)
  lcg_src
  rw [show (pendingOf (Ms κ arr pend g))[i]? = some (sa, na, p1) from h1, show (pendingOf (Ms κ arr pend g))[i + 1]? = some (sb, nb, p2) from h2]
  lcg_src
  refine wpS_bind (ts_set ?_)
  refine wpS_bind (ts_elem hb0 ?_)
  refine wpS_bind (gal_false L (by show sa + na ≤ arr.size; omega) (by rw [hA]; exact sA) (by rw [hA]; exact mA) mb0 na0 rfl fun k1 hk1 f1 f2 => ?_)
  rw [hA] at f2
  have f1 : ∀ x ∈ lA.take k1, c b0 x = false := fun x hx => f1 x (by rw [← hA, List.take_take, Nat.min_eq_left hk1] at hx; exact hx)
  lcg_src
  have lt0 : ∀ x, M x → c x b0 = true → ∀ y ∈ lB, c x y = true := fun x mx e => by
    rw [tb0] at sB mB ⊢
    exact head_all L sB mb0 mx (fun z hz => mB z (List.mem_cons_of_mem _ hz)) e
  have hb0B : b0 ∈ lB := by rw [tb0]; exact List.mem_cons_self
  have f1' : ∀ x ∈ lA.take k1, ∀ y ∈ lB, c x y = true := fun x hx => by
    have hx' := List.mem_of_mem_take hx
    exact lt0 x (mA x hx') (L.tot _ _ mb0 (mA x hx') (fun e => neAB x hx' b0 hb0B e.symm) (f1 x hx))
  refine wpS_ite (fun e1 => ?_) fun e1 => ?_
  · have e1 : na - k1 = 0 := eq_of_beq e1
    refine wpS_pure (same fun x hx y hy => f1' x ?_ y hy)
    rw [List.take_of_length_le (by omega)]
    exact hx
  have e1 : na - k1 ≠ 0 := by simpa using e1
  have eA : (arr.extract (sa + k1) sb).toList = lA.drop k1 := by
    rw [ext_mid, ← hA, List.drop_take, List.drop_take, List.drop_drop]
    congr 1
    omega
  have sz1 : (arr.extract (sa + k1) sb).size = na - k1 := by rw [← Array.length_toList, eA, List.length_drop, lenA]
  obtain ⟨x, hx, dx⟩ := take_at (a := arr.extract (sa + k1) sb) (n := na - k1) (by omega) (by omega)
  have hx' : arr[sa + k1 + (na - k1) - 1]? = some x := by
    rw [Array.getElem?_extract, if_pos (by omega)] at hx
    rw [show sa + k1 + (na - k1) - 1 = sa + k1 + (na - k1 - 1) by omega]
    exact hx
  have eAx : lA.drop k1 = (lA.drop k1).take (na - k1 - 1) ++ [x] := by
    rw [eA, List.take_of_length_le (by rw [List.length_drop]; omega)] at dx
    exact dx
  have hxA : x ∈ lA := List.mem_of_mem_drop (i := k1) (by rw [eAx]; simp)
  have mx : M x := mA x hxA
  have upx : ∀ z ∈ lA, ∀ y, M y → c x y = true → c z y = true := fun z hz y my e => by
    have e2 : lA = (lA.take k1 ++ (lA.drop k1).take (na - k1 - 1)) ++ [x] := by
      rw [List.append_assoc, ← eAx, List.take_append_drop]
    rw [e2] at hz sA mA
    exact last_all L sA mx my (fun z hz => mA z (List.mem_append_left _ hz)) e z hz
  refine wpS_bind (ts_elem hx' ?_)
  refine wpS_bind (gal_true L hsz (by rw [hB]; exact sB) (by rw [hB]; exact mB) mx (by omega) rfl fun k2 hk2 f3 f4 => ?_)
  rw [hB] at f4
  have f3 : ∀ z ∈ lB.take k2, c z x = true := fun z hz => f3 z (by rw [← hB, List.take_take, Nat.min_eq_left hk2] at hz; exact hz)
  have f4' : ∀ y ∈ lB.drop k2, ∀ z ∈ lA, c z y = true := fun y hy z hz => by
    have hy' := List.mem_of_mem_drop hy
    exact upx z hz y (mB y hy') (L.tot _ _ (mB y hy') mx (fun e => neAB x hxA y hy' e.symm) (f4 y hy))
  lcg_src
  refine wpS_ite (fun e2 => ?_) fun e2 => ?_
  · have e2 : k2 = 0 := eq_of_beq e2
    refine wpS_pure (same fun x hx y hy => f4' y ?_ x hx)
    rw [e2, List.drop_zero]
    exact hy
  have e2 : k2 ≠ 0 := by simpa using e2
  (lcg_src; lcg_sub; lcg_sub)
  (extract_lets +onlyGivenNames -underBinder -merge -useContext J; clear_value (hJ : J = _))
  have eB : (arr.extract sb (sb + k2)).toList = lB.take k2 := by
    rw [ext_take, ← hB, List.take_take, Nat.min_eq_left hk2]
  have sz2 : (arr.extract sb (sb + k2)).size = k2 := by rw [← Array.length_toList, eB, List.length_take, lenB]; omega
  have j : ∀ (r : Array Keyed) g', r.toList.Perm (lA.drop k1 ++ lB.take k2) → Srt c r.toList → wpS (model prog w) A E s (J r) Q (Gs (Ms κ arr ((pend.setIfInBounds i (sa, na + nb, p1)).eraseIdxIfInBounds (i + 1)) g) g') := fun r g' pr sr => by
    rw [hJ]
    lcg_src
    refine wpS_bind (wpS_modify (wpS_bind (wpS_get (wpS_pure ?_))))
    have lr : r.toList.length = na - k1 + k2 := by rw [pr.length_eq, List.length_append, List.length_drop, List.length_take, lenA, lenB]; omega
    refine q' _ g' (lA.take k1 ++ r.toList ++ lB.drop k2) ((put_all r.toList 0 arr (by omega)).trans ?_) ?_ ?_
    · have h3 : arr.toList.take (sa + k1 + 0) = arr.toList.take sa ++ lA.take k1 := by
        rw [Nat.add_zero, List.take_add, ← hA, List.take_take, Nat.min_eq_left hk1]
      have h4 : arr.toList.drop (sa + k1 + 0 + r.toList.length) = lB.drop k2 ++ arr.toList.drop (sb + nb) := by
        rw [lr, show sa + k1 + 0 + (na - k1 + k2) = sb + k2 by omega, ← hB, List.drop_take]
        rw [show arr.toList.drop (sb + nb) = (arr.toList.drop (sb + k2)).drop (nb - k2) by rw [List.drop_drop]; congr 1; omega, List.drop_drop, List.take_append_drop]
      rw [h3, h4]
      simp only [List.append_assoc]
    · have : lA ++ lB = lA.take k1 ++ (lA.drop k1 ++ lB.take k2) ++ lB.drop k2 := by
        rw [← List.append_assoc, List.take_append_drop, List.append_assoc, List.take_append_drop]
      rw [this]
      exact List.Perm.append_right _ (List.Perm.append_left _ pr)
    · have sA' : Srt c (lA.take k1 ++ lA.drop k1) := by rw [List.take_append_drop]; exact sA
      have sB' : Srt c (lB.take k2 ++ lB.drop k2) := by rw [List.take_append_drop]; exact sB
      have pA := List.pairwise_append.mp sA'
      have pB := List.pairwise_append.mp sB'
      have m1 : ∀ x ∈ lA.take k1, ∀ y ∈ r.toList, c x y = true := fun x hx y hy => by
        rcases List.mem_append.mp (pr.mem_iff.mp hy) with hy | hy
        · exact pA.2.2 x hx y hy
        · exact f1' x hx y (List.mem_of_mem_take hy)
      have m2 : ∀ x ∈ r.toList, ∀ y ∈ lB.drop k2, c x y = true := fun x hx y hy => by
        rcases List.mem_append.mp (pr.mem_iff.mp hx) with hx | hx
        · exact f4' y hy x (List.mem_of_mem_drop hx)
        · exact pB.2.2 x hx y hy
      refine List.pairwise_append.mpr ⟨List.pairwise_append.mpr ⟨pA.1, sr, m1⟩, pB.2.1, fun x hx y hy => ?_⟩
      rcases List.mem_append.mp hx with hx | hx
      · exact f4' y hy x (List.mem_of_mem_take hx)
      · exact m2 x hx y hy
  have sA2 : Srt c (lA.drop k1) := sA.sublist (List.drop_sublist _ _)
  have sB2 : Srt c (lB.take k2) := sB.sublist (List.take_sublist _ _)
  have mm2 : ∀ x ∈ lA.drop k1 ++ lB.take k2, M x := fun x hx => by
    rcases List.mem_append.mp hx with hx | hx
    · exact mA x (List.mem_of_mem_drop hx)
    · exact mB x (List.mem_of_mem_take hx)
  have nd2 : (lA.drop k1 ++ lB.take k2).Nodup := ndAB.sublist ((List.drop_sublist _ _).append (List.take_sublist _ _))
  have tb : lB.take k2 = b0 :: ((arr.toList.drop (sb + 1)).take (nb - 1)).take (k2 - 1) := by
    rw [tb0, show k2 = (k2 - 1) + 1 by omega, List.take_succ_cons]; rfl
  refine wpS_ite (fun g1 => ?_) fun g1 => ?_
  · refine wpS_bind (ts_lo L (all := lA.drop k1 ++ lB.take k2) (by rw [eA, eB]; exact ⟨List.Perm.refl _, List.Pairwise.nil, sA2, sB2, fun _ z => (nomatch z), mm2, nd2⟩) (show 0 < (arr.extract (sa + k1) sb).size by omega) (show 0 < (arr.extract sb (sb + k2)).size by omega) (fun z hz y hy => ?_) (fun z hz y hy => ?_) rfl fun r g' p1 p2 => ?_)
    · have : z = b0 := by
        rw [← Array.getElem?_toList, eB, tb] at hz
        exact (Option.some.inj hz).symm
      rw [this]
      exact f2 y (by rw [eA] at hy; exact hy)
    · rw [eB] at hz
      rw [sz1, eA, eAx] at hy
      have : y = x := by
        rw [List.drop_append_of_le_length (by rw [List.length_take, List.length_drop]; omega), List.drop_of_length_le (by rw [List.length_take]; omega)] at hy
        simpa using hy
      rw [this]
      exact f3 z hz
    · exact j r g' p1 p2
  · refine wpS_bind (ts_hi L (all := lA.drop k1 ++ lB.take k2) (by rw [eA, eB]; exact ⟨by rw [List.append_nil], List.Pairwise.nil, sA2, sB2, fun _ _ _ z => (nomatch z), mm2, nd2⟩) (show 0 < (arr.extract (sa + k1) sb).size by omega) (show 0 < (arr.extract sb (sb + k2)).size by omega) (fun z hz y hy => ?_) (fun z hz y hy => ?_) rfl fun r g' p1 p2 => ?_)
    · have : z = b0 := by
        rw [eB, tb] at hz
        simpa using hz
      rw [this]
      exact f2 y (by rw [eA] at hy; exact hy)
    · rw [eB] at hz
      rw [sz1, hx] at hy
      cases hy
      exact f3 z hz
    · exact j r g' p1 p2
end
end TS
namespace TS
local macro_rules | `(tactic| lcg_src) => `(tactic| try dsimp (zeta := false) (zetaUnused := false) only)
local macro_rules | `(tactic| lcg_sub) => `(tactic| (extract_lets +onlyGivenNames -underBinder -merge -useContext zz; subst zz; try dsimp (zeta := false) (zetaUnused := false) only))
open PySem PySem.W PyProof.Rows
abbrev ka (arr : Array Keyed) (i : Nat) : Keyed := arr.getD i (Value.none, Value.none)
theorem ka_at {arr : Array Keyed} {i : Nat} (h : i < arr.size) : arr[i]? = some (ka arr i) := by
  unfold ka; rw [Array.getD_eq_getD_getElem?, Array.getElem?_eq_getElem h]; rfl
theorem ka_of {arr arr' : Array Keyed} {i j : Nat} (h : arr'[i]? = arr[j]?) : ka arr' i = ka arr j := by
  unfold ka; rw [Array.getD_eq_getD_getElem?, Array.getD_eq_getD_getElem?, h]
structure Gd (M : Keyed → Prop) (arr : Array Keyed) : Prop where
  mm : ∀ x ∈ arr.toList, M x
  nd : arr.toList.Nodup
theorem Gd.perm {M : Keyed → Prop} {arr arr' : Array Keyed} (h : Gd M arr) (p : arr'.Perm arr) : Gd M arr' := by
  have p' := Array.perm_iff_toList_perm.mp p
  exact ⟨fun x hx => h.mm x (p'.mem_iff.mp hx), p'.nodup_iff.mpr h.nd⟩
theorem Gd.at_ {M : Keyed → Prop} {arr : Array Keyed} (h : Gd M arr) {i : Nat} (hi : i < arr.size) : M (ka arr i) := by
  have := ka_at hi
  rw [← Array.getElem?_toList] at this
  exact h.mm _ (List.mem_of_getElem? this)
theorem Gd.ne {M : Keyed → Prop} {arr : Array Keyed} (h : Gd M arr) {i j : Nat} (hi : i < arr.size) (hj : j < arr.size) (hij : i ≠ j) : ka arr i ≠ ka arr j := by
  have h1 := ka_at hi
  have h2 := ka_at hj
  rw [← Array.getElem?_toList] at h1 h2
  obtain ⟨l1, e1⟩ := List.getElem?_eq_some_iff.mp h1
  obtain ⟨l2, e2⟩ := List.getElem?_eq_some_iff.mp h2
  rw [← e1, ← e2]
  have q := List.pairwise_iff_getElem.mp h.nd
  by_cases z : i < j
  · exact q i j l1 l2 z
  · exact fun e => q j i l2 l1 (by omega) e.symm
structure Loc (arr arr' : Array Keyed) (lo hi : Nat) : Prop where
  pm : arr'.Perm arr
  out : ∀ i, i < lo ∨ hi ≤ i → arr'[i]? = arr[i]?
theorem Loc.refl {arr : Array Keyed} {lo hi : Nat} : Loc arr arr lo hi := ⟨Array.Perm.refl _, fun _ _ => rfl⟩
theorem Loc.trans {a b d : Array Keyed} {lo hi : Nat} (h : Loc a b lo hi) (h' : Loc b d lo hi) : Loc a d lo hi := ⟨h'.pm.trans h.pm, fun i z => (h'.out i z).trans (h.out i z)⟩
theorem Loc.mono {a b : Array Keyed} {lo hi hi' : Nat} (h : Loc a b lo hi) (z : hi ≤ hi') : Loc a b lo hi' := ⟨h.pm, fun i y => h.out i (by omega)⟩
theorem Loc.size {a b : Array Keyed} {lo hi : Nat} (h : Loc a b lo hi) : b.size = a.size := h.pm.size_eq
def Ups (c : Keyed → Keyed → Bool) (arr : Array Keyed) (lo n : Nat) : Prop := ∀ i j, i < j → j < n → c (ka arr (lo + i)) (ka arr (lo + j)) = true
def Dns (c : Keyed → Keyed → Bool) (arr : Array Keyed) (lo n : Nat) : Prop := ∀ i j, i < j → j < n → c (ka arr (lo + j)) (ka arr (lo + i)) = true
theorem Ups.srt {c : Keyed → Keyed → Bool} {arr : Array Keyed} {lo n : Nat} (h : Ups c arr lo n) (hn : lo + n ≤ arr.size) : Srt c ((arr.toList.drop lo).take n) := by
  have hl : ((arr.toList.drop lo).take n).length = n := by rw [List.length_take, List.length_drop, Array.length_toList]; omega
  refine List.pairwise_iff_getElem.mpr fun i j hi hj hij => ?_
  obtain ⟨h1, e1⟩ := seg_at hn (show i < n by omega)
  obtain ⟨h2, e2⟩ := seg_at hn (show j < n by omega)
  rw [ka_at (by omega)] at e1 e2
  rw [← Option.some.inj e1, ← Option.some.inj e2]
  exact h i j hij (by omega)
theorem Ups.of_srt {c : Keyed → Keyed → Bool} {arr : Array Keyed} {lo n : Nat} (hn : lo + n ≤ arr.size) (h : Srt c ((arr.toList.drop lo).take n)) : Ups c arr lo n := fun i j hij hj => by
  obtain ⟨h1, e1⟩ := seg_at hn (show i < n by omega)
  obtain ⟨h2, e2⟩ := seg_at hn (show j < n by omega)
  rw [ka_at (by omega)] at e1 e2
  rw [Option.some.inj e1, Option.some.inj e2]
  exact List.pairwise_iff_getElem.mp h i j h1 h2 hij
section
variable {prog : Program} {w : World} {A : Around} {s : Shared} {E : Value → Shared → Prop} {κ : SortKind} {M : Keyed → Prop} {c : Keyed → Keyed → Bool}
theorem ts_ltAt (L : Cmp prog w A s κ M c) {arr : Array Keyed} {p : Array (Nat × Nat × Nat)} {g i j : Nat} (G : Gd M arr) (hi : i < arr.size) (hj : j < arr.size) {Q : Option Bool → SortSt → Prop} (q : Q (some (c (ka arr i) (ka arr j))) (Ms κ arr p g)) : wpS (model prog w) A E s (ltAt' i j) Q (Ms κ arr p g) := by
  rw [ltAt'_eq]
  refine wpS_bind (wpS_get ?_)
  refine wpS_bind (ts_elem (ka_at hi) ?_)
  refine wpS_bind (ts_elem (ka_at hj) ?_)
  exact ts_lt L (G.at_ hi) (G.at_ hj) rfl q
theorem ts_list {β : Type} {f : Nat → β → StateT SortSt Sem (ForInStep β)} {Q : β → SortSt → Prop} (I : Nat → β → SortSt → Prop)
    (step : ∀ x k b st, I (k + 1) b st → wpS (model prog w) A E s (f x b) (TsR Q fun b' st' => I k b' st') st) (fin : ∀ b st, I 0 b st → Q b st) :
    ∀ (l : List Nat) (b : β) (st : SortSt), I l.length b st → wpS (model prog w) A E s (forIn l b f) Q st
  | [], b, st, i => by
    rw [List.forIn_nil]
    exact wpS_pure (fin b st i)
  | x :: l, b, st, i => by
    rw [List.forIn_cons]
    refine wpS_bind (wpS_mono (step x l.length b st i) fun r st' hr => ?_)
    cases r with
    | done b' => exact wpS_pure hr
    | yield b' => exact ts_list I step fin l b' st' hr
theorem Ups.more (L : Cmp prog w A s κ M c) {arr : Array Keyed} (G : Gd M arr) {lo n : Nat} (hn : lo + n < arr.size) (h1 : 1 ≤ n) (u : Ups c arr lo n) (e : c (ka arr (lo + n - 1)) (ka arr (lo + n)) = true) : Ups c arr lo (n + 1) := fun i j hij hj => by
  by_cases z : j < n
  · exact u i j hij z
  · obtain rfl : j = n := by omega
    by_cases y : i = j - 1
    · rw [y, show lo + (j - 1) = lo + j - 1 by omega]; exact e
    · refine L.trans _ (ka arr (lo + j - 1)) _ (G.at_ (by omega)) (G.at_ (by omega)) (G.at_ hn) ?_ e
      rw [show lo + j - 1 = lo + (j - 1) by omega]
      exact u i (j - 1) (by omega) (by omega)
theorem Dns.more (L : Cmp prog w A s κ M c) {arr : Array Keyed} (G : Gd M arr) {lo n : Nat} (hn : lo + n < arr.size) (h1 : 1 ≤ n) (u : Dns c arr lo n) (e : c (ka arr (lo + n)) (ka arr (lo + n - 1)) = true) : Dns c arr lo (n + 1) := fun i j hij hj => by
  by_cases z : j < n
  · exact u i j hij z
  · obtain rfl : j = n := by omega
    by_cases y : i = j - 1
    · rw [y, show lo + (j - 1) = lo + j - 1 by omega]; exact e
    · refine L.trans _ (ka arr (lo + j - 1)) _ (G.at_ hn) (G.at_ (by omega)) (G.at_ (by omega)) e ?_
      rw [show lo + j - 1 = lo + (j - 1) by omega]
      exact u i (j - 1) (by omega) (by omega)
theorem loc_rev {arr : Array Keyed} {lo n : Nat} (hn : lo + n ≤ arr.size) : Loc arr (mirror arr lo (lo + n) ((lo + n - lo) / 2)) lo (lo + n) := by
  refine ⟨mirror_perm _ _ _ _, fun i z => ?_⟩
  rw [getElem?_mirror_all hn, if_neg (by omega)]
theorem Dns.rev {arr : Array Keyed} {lo n : Nat} (hn : lo + n ≤ arr.size) (d : Dns c arr lo n) : Ups c (mirror arr lo (lo + n) ((lo + n - lo) / 2)) lo n := fun i j hij hj => by
  have e : ∀ i, i < n → ka (mirror arr lo (lo + n) ((lo + n - lo) / 2)) (lo + i) = ka arr (lo + (n - 1 - i)) := fun i hi => ka_of (by
    rw [getElem?_mirror_all hn, if_pos (by omega)]
    congr 1
    omega)
  rw [e i (by omega), e j hj]
  exact d _ _ (by omega) (by omega)
theorem ts_count (L : Cmp prog w A s κ M c) {arr : Array Keyed} {p : Array (Nat × Nat × Nat)} {g lo nrem : Nat} (G : Gd M arr) (hn : lo + nrem ≤ arr.size) (h1 : 1 ≤ nrem) {Q : Option Nat → SortSt → Prop}
    (q : ∀ n arr', 1 ≤ n → n ≤ nrem → Loc arr arr' lo (lo + n) → Ups c arr' lo n → Q (some n) (Ms κ arr' p g)) : wpS (model prog w) A E s (countRun' lo nrem) Q (Ms κ arr p g) := by
  rw [countRun'_eq]
  (lcg_src; lcg_sub)
  refine wpS_bind ?_
  rw [range_list]
  refine wpS_mono (Q := fun (r : Option (Option Nat) × Nat) st => st = Ms κ arr p g ∧ r.1 = none ∧ 1 ≤ r.2 ∧ r.2 ≤ nrem ∧ Ups c arr lo r.2 ∧ (r.2 < nrem → c (ka arr (lo + r.2)) (ka arr (lo + r.2 - 1)) = true))
    (ts_list (fun k (r : Option (Option Nat) × Nat) st => st = Ms κ arr p g ∧ r.1 = none ∧ 1 ≤ r.2 ∧ r.2 + k = nrem ∧ Ups c arr lo r.2) ?_ ?_ _ _ _ ⟨rfl, rfl, Nat.le_refl _, by rw [List.length_range']; dsimp only; omega, fun i j a b => by dsimp only at b; omega⟩) ?_
  · rintro x k ⟨r, n⟩ st ⟨rfl, rfl, a1, a2, u⟩
    dsimp only at a1 a2 u
    (lcg_src; lcg_sub)
    refine wpS_bind (ts_ltAt L G (by omega) (by omega) ?_)
    lcg_src
    cases e : c (ka arr (lo + n)) (ka arr (lo + n - 1)) with
    | true => exact wpS_ite (fun _ => wpS_pure ⟨rfl, rfl, a1, by dsimp only; omega, u, fun _ => e⟩) fun z => absurd rfl z
    | false =>
      refine wpS_ite (fun z => nomatch z) fun _ => ?_
      (lcg_src; lcg_sub)
      exact wpS_pure ⟨rfl, rfl, by dsimp only; omega, by dsimp only; omega, u.more L G (by omega) a1 (L.tot _ _ (G.at_ (by omega)) (G.at_ (by omega)) (G.ne (by omega) (by omega) (by omega)) e)⟩
  · rintro ⟨r, n⟩ st ⟨rfl, rfl, a1, a2, u⟩
    exact ⟨rfl, rfl, a1, by omega, u, fun z => by omega⟩
  rintro ⟨r, n⟩ st ⟨rfl, rfl, a1, a2, u, ex⟩
  dsimp only at a1 a2 u ex
  (lcg_src; lcg_sub; lcg_sub)
  refine wpS_ite (fun e => wpS_pure (q n arr a1 a2 Loc.refl u)) fun e => ?_
  have e : n ≠ nrem := by simpa using e
  (extract_lets +onlyGivenNames -underBinder -merge -useContext J; clear_value (hJ : J = _))
  refine wpS_ite (fun hn1 => ?_) fun hn1 => ?_
  · refine wpS_bind (ts_ltAt L G (by omega) (by omega) ?_)
    lcg_src
    have : c (ka arr lo) (ka arr (lo + n - 1)) = true := by
      have := u 0 (n - 1) (by omega) (by omega)
      rw [show lo + (n - 1) = lo + n - 1 by omega] at this
      exact this
    refine wpS_ite (fun _ => wpS_pure (q n arr a1 a2 Loc.refl u)) fun z => absurd this z
  obtain rfl : n = 1 := by omega
  have ex := ex (by omega)
  rw [hJ]
  lcg_src
  refine wpS_bind (ts_rule ?_)
  (lcg_src; lcg_sub; lcg_sub)
  refine wpS_bind ?_
  rw [range_list]
  refine wpS_mono (Q := fun (r : Option (Option Nat) × Nat × Nat) st => st = Ms κ arr p g ∧ r.1 = none ∧ r.2.2 = 0 ∧ 2 ≤ r.2.1 ∧ r.2.1 ≤ nrem ∧ Dns c arr lo r.2.1)
    (ts_list (fun k (r : Option (Option Nat) × Nat × Nat) st => st = Ms κ arr p g ∧ r.1 = none ∧ r.2.2 = 0 ∧ 2 ≤ r.2.1 ∧ r.2.1 + k = nrem ∧ Dns c arr lo r.2.1) ?_ ?_ _ _ _ ⟨rfl, rfl, rfl, Nat.le_refl _, by rw [List.length_range']; dsimp only; omega, fun i j a b => by
      dsimp only at b
      obtain rfl : i = 0 := by omega
      obtain rfl : j = 1 := by omega
      exact ex⟩) ?_
  · rintro x k ⟨r, n, neq⟩ st ⟨rfl, rfl, rfl, a1, a2, u⟩
    dsimp only at a1 a2 u
    (lcg_src; lcg_sub; lcg_sub; lcg_sub)
    refine wpS_bind (ts_ltAt L G (by omega) (by omega) ?_)
    lcg_src
    (extract_lets +onlyGivenNames -underBinder -merge -useContext J2; clear_value (hJ2 : J2 = _))
    cases e : c (ka arr (lo + n)) (ka arr (lo + n - 1)) with
    | true =>
      refine wpS_ite (fun _ => ?_) fun z => absurd rfl z
      (extract_lets +onlyGivenNames -underBinder -merge -useContext J3; clear_value (hJ3 : J3 = _))
      refine wpS_ite (fun z => absurd z (Nat.lt_irrefl 0)) fun _ => ?_
      rw [hJ3, hJ2]
      (lcg_src; lcg_sub; lcg_sub)
      exact wpS_pure ⟨rfl, rfl, rfl, by dsimp only; omega, by dsimp only; omega, u.more L G (by omega) (by omega) e⟩
    | false =>
      refine wpS_ite (fun z => nomatch z) fun _ => ?_
      have e' := L.tot _ _ (G.at_ (by omega)) (G.at_ (by omega)) (G.ne (by omega) (by omega) (by omega)) e
      refine wpS_bind (ts_ltAt L G (by omega) (by omega) ?_)
      lcg_src
      refine wpS_ite (fun _ => wpS_pure ⟨rfl, rfl, rfl, a1, by dsimp only; omega, u⟩) fun z => absurd e' z
  · rintro ⟨r, n, neq⟩ st ⟨rfl, rfl, rfl, a1, a2, u⟩
    exact ⟨rfl, rfl, rfl, a1, by omega, u⟩
  rintro ⟨r, n, neq⟩ st ⟨rfl, rfl, rfl, a1, a2, u⟩
  dsimp only at a1 a2 u
  (lcg_src; lcg_sub; lcg_sub; lcg_sub; lcg_sub)
  (extract_lets +onlyGivenNames -underBinder -merge -useContext J4; clear_value (hJ4 : J4 = _))
  refine wpS_ite (fun z => absurd z (Nat.lt_irrefl 0)) fun _ => ?_
  rw [hJ4]
  lcg_src
  refine wpS_bind (wpS_reverse ?_)
  have lc := loc_rev (arr := arr) (lo := lo) (n := n) (by omega)
  have u2 := u.rev (by omega)
  show wpS _ _ _ _ _ _ (Ms κ (mirror arr lo (lo + n) ((lo + n - lo) / 2)) p g)
  generalize mirror arr lo (lo + n) ((lo + n - lo) / 2) = arr2 at *
  have G2 := G.perm lc.pm
  have sz := lc.size
  refine wpS_bind ?_
  rw [range_list]
  refine wpS_mono (Q := fun (r : Option (Option Nat) × Nat) st => st = Ms κ arr2 p g ∧ r.1 = none ∧ n ≤ r.2 ∧ r.2 ≤ nrem ∧ Ups c arr2 lo r.2)
    (ts_list (fun k (r : Option (Option Nat) × Nat) st => st = Ms κ arr2 p g ∧ r.1 = none ∧ n ≤ r.2 ∧ r.2 + k = nrem ∧ Ups c arr2 lo r.2) ?_ ?_ _ _ _ ⟨rfl, rfl, Nat.le_refl _, by rw [List.length_range']; dsimp only; omega, u2⟩) ?_
  · rintro x k ⟨r, m⟩ st ⟨rfl, rfl, a1, a2, u⟩
    dsimp only at a1 a2 u
    (lcg_src; lcg_sub)
    refine wpS_bind (ts_ltAt L G2 (by omega) (by omega) ?_)
    lcg_src
    cases e : c (ka arr2 (lo + m)) (ka arr2 (lo + m - 1)) with
    | true => exact wpS_ite (fun _ => wpS_pure ⟨rfl, rfl, a1, by dsimp only; omega, u⟩) fun z => absurd rfl z
    | false =>
      refine wpS_ite (fun z => nomatch z) fun _ => ?_
      (lcg_src; lcg_sub)
      exact wpS_pure ⟨rfl, rfl, by dsimp only; omega, by dsimp only; omega, u.more L G2 (by omega) (by omega) (L.tot _ _ (G2.at_ (by omega)) (G2.at_ (by omega)) (G2.ne (by omega) (by omega) (by omega)) e)⟩
  · rintro ⟨r, m⟩ st ⟨rfl, rfl, a1, a2, u⟩
    exact ⟨rfl, rfl, a1, by omega, u⟩
  rintro ⟨r, m⟩ st ⟨rfl, rfl, a1, a2, u⟩
  dsimp only at a1 a2 u
  (lcg_src; lcg_sub; lcg_sub)
  exact wpS_pure (q m arr2 (by omega) a2 (lc.mono (by omega)) u)
end
end TS
namespace TS
local macro_rules | `(tactic| lcg_src) => `(tactic| try dsimp (zeta := false) (zetaUnused := false) only)
local macro_rules | `(tactic| lcg_sub) => `(tactic| (extract_lets +onlyGivenNames -underBinder -merge -useContext zz; subst zz; try dsimp (zeta := false) (zetaUnused := false) only))
open PySem PySem.W PyProof.Rows
section
variable {prog : Program} {w : World} {A : Around} {s : Shared} {E : Value → Shared → Prop} {κ : SortKind} {M : Keyed → Prop} {c : Keyed → Keyed → Bool}
theorem loc_bub {arr : Array Keyed} {lo k l : Nat} (hk : lo + k < arr.size) (hl : l ≤ k) : Loc arr (bubble arr (lo + k) (lo + k - (lo + l))) lo (lo + k + 1) := by
  refine ⟨bubble_perm _ _ _, fun i z => ?_⟩
  rw [getElem?_bubble hk _ (by omega), if_neg (by omega), if_neg (by omega)]
theorem ts_bin (L : Cmp prog w A s κ M c) {arr : Array Keyed} {p : Array (Nat × Nat × Nat)} {g lo n ok : Nat} (G : Gd M arr) (hn : lo + n ≤ arr.size) (h1 : 1 ≤ ok) (h2 : ok ≤ n) (u : Ups c arr lo ok) {Q : Bool → SortSt → Prop}
    (q : ∀ arr', Loc arr arr' lo (lo + n) → Ups c arr' lo n → Q true (Ms κ arr' p g)) : wpS (model prog w) A E s (binarySort' lo n ok) Q (Ms κ arr p g) := by
  rw [binarySort'_eq]
  refine wpS_bind ?_
  rw [show max ok 1 = ok by omega]
  refine wpS_mono (Q := fun (r : Option Bool × PUnit) st => ∃ arr', st = Ms κ arr' p g ∧ r.1 = none ∧ Loc arr arr' lo (lo + n) ∧ Ups c arr' lo n)
    (wpS_forRange (fun k (r : Option Bool × PUnit) st => ∃ arr', st = Ms κ arr' p g ∧ r.1 = none ∧ Loc arr arr' lo (lo + n) ∧ Ups c arr' lo k) ?_ ?_ ⟨arr, rfl, rfl, Loc.refl, u⟩) ?_
  · rintro k ⟨r, _⟩ st hk1 hk2 ⟨arr2, rfl, rfl, lc, u2⟩
    have G2 := G.perm lc.pm
    have sz := lc.size
    (lcg_src; lcg_sub; lcg_sub)
    refine wpS_bind ?_
    rw [range_list]
    refine wpS_mono (Q := fun (r : Option Bool × Nat × Nat) st => st = Ms κ arr2 p g ∧ r.1 = none ∧ r.2.1 ≤ k ∧ (∀ j, j < r.2.1 → c (ka arr2 (lo + j)) (ka arr2 (lo + k)) = true) ∧ (∀ j, r.2.1 ≤ j → j < k → c (ka arr2 (lo + k)) (ka arr2 (lo + j)) = true))
      (ts_fuel0 (fun f (r : Option Bool × Nat × Nat) st => st = Ms κ arr2 p g ∧ r.1 = none ∧ r.2.1 ≤ r.2.2 ∧ r.2.2 ≤ k ∧ f = r.2.2 - r.2.1 ∧ (∀ j, j < r.2.1 → c (ka arr2 (lo + j)) (ka arr2 (lo + k)) = true) ∧ (∀ j, r.2.2 ≤ j → j < k → c (ka arr2 (lo + k)) (ka arr2 (lo + j)) = true)) ?_ ?_ _ k _ _ (by rw [List.length_range']; exact Nat.le_refl _) ⟨rfl, rfl, Nat.zero_le _, Nat.le_refl _, rfl, fun j z => absurd z (Nat.not_lt_zero _), fun j z y => by dsimp only at z; omega⟩) ?_
    · rintro _ f ⟨r0, l, r⟩ st ⟨rfl, rfl, b1, b2, b3, b4, b5⟩
      dsimp only at b1 b2 b3 b4 b5
      (lcg_src; lcg_sub; lcg_sub; lcg_sub)
      refine wpS_ite (fun e => wpS_pure ⟨rfl, rfl, by dsimp only; omega, b4, fun j y z => b5 j (by dsimp only at y; omega) z⟩) fun e => ?_
      (lcg_src; lcg_sub)
      refine wpS_bind (ts_ltAt L G2 (by omega) (by omega) ?_)
      lcg_src
      cases e2 : c (ka arr2 (lo + k)) (ka arr2 (lo + (l + r) / 2)) with
      | true =>
        refine wpS_ite (fun _ => ?_) fun z => absurd rfl z
        (lcg_src; lcg_sub)
        refine wpS_pure ⟨_, show (l + r) / 2 - l < f by omega, rfl, rfl, by dsimp only; omega, by dsimp only; omega, rfl, b4, fun j y z => ?_⟩
        dsimp only at y
        by_cases z2 : j = (l + r) / 2
        · rw [z2]; exact e2
        · exact L.trans _ _ _ (G2.at_ (by omega)) (G2.at_ (by omega)) (G2.at_ (by omega)) e2 (u2 _ _ (by omega) z)
      | false =>
        refine wpS_ite (fun z => nomatch z) fun _ => ?_
        (lcg_src; lcg_sub)
        have e' := L.tot _ _ (G2.at_ (by omega)) (G2.at_ (by omega)) (G2.ne (by omega) (by omega) (by omega)) e2
        refine wpS_pure ⟨_, show r - ((l + r) / 2 + 1) < f by omega, rfl, rfl, by dsimp only; omega, by dsimp only; omega, rfl, fun j y => ?_, b5⟩
        dsimp only at y
        by_cases z2 : j = (l + r) / 2
        · rw [z2]; exact e'
        · exact L.trans _ _ _ (G2.at_ (by omega)) (G2.at_ (by omega)) (G2.at_ (by omega)) (u2 _ _ (by omega) (by omega)) e'
    · rintro ⟨r0, l, r⟩ st ⟨rfl, rfl, b1, b2, b3, b4, b5⟩
      dsimp only at b1 b2 b3 b4 b5
      exact ⟨rfl, rfl, by dsimp only; omega, b4, fun j y z => b5 j (by dsimp only at y; omega) z⟩
    rintro ⟨r0, l, r⟩ st ⟨rfl, rfl, b1, b4, b5⟩
    dsimp only at b1 b4 b5
    (lcg_src; lcg_sub; lcg_sub; lcg_sub)
    rw [moveDown'_eq]
    refine wpS_bind (wpS_modify (wpS_pure ⟨bubble arr2 (lo + k) (lo + k - (lo + l)), rfl, rfl, lc.trans ((loc_bub (by omega) b1).mono (by omega)), fun i j hij hj => ?_⟩))
    have e : ∀ i, ka (bubble arr2 (lo + k) (lo + k - (lo + l))) (lo + i) = if i = l then ka arr2 (lo + k) else if l < i ∧ i ≤ k then ka arr2 (lo + (i - 1)) else ka arr2 (lo + i) := fun i => by
      have := getElem?_bubble (xs := arr2) (src := lo + k) (by omega) (lo + k - (lo + l)) (by omega) (lo + i)
      by_cases e1 : i = l
      · rw [if_pos e1]
        rw [if_pos (by omega)] at this
        exact ka_of this
      · rw [if_neg e1]
        rw [if_neg (by omega)] at this
        by_cases e2 : l < i ∧ i ≤ k
        · rw [if_pos e2]
          rw [if_pos (by omega), show lo + i - 1 = lo + (i - 1) by omega] at this
          exact ka_of this
        · rw [if_neg e2]
          rw [if_neg (by omega)] at this
          exact ka_of this
    rw [e, e]
    by_cases e1 : i = l
    · rw [if_pos e1, if_neg (by omega), if_pos ⟨by omega, by omega⟩]
      exact b5 _ (by omega) (by omega)
    · rw [if_neg e1]
      by_cases e2 : l < i ∧ i ≤ k
      · rw [if_pos e2, if_neg (by omega), if_pos ⟨by omega, by omega⟩]
        exact u2 _ _ (by omega) (by omega)
      · rw [if_neg e2]
        by_cases e3 : j = l
        · rw [if_pos e3]; exact b4 i (by omega)
        · rw [if_neg e3]
          by_cases e4 : l < j ∧ j ≤ k
          · rw [if_pos e4]; exact u2 _ _ (by omega) (by omega)
          · rw [if_neg e4]; exact u2 _ _ hij (by omega)
  · rintro ⟨r, _⟩ st ⟨arr2, rfl, rfl, lc, u2⟩
    rw [show max ok n = n by omega] at u2
    exact ⟨arr2, rfl, rfl, lc, u2⟩
  · rintro ⟨r, _⟩ st ⟨arr2, rfl, rfl, lc, u2⟩
    exact wpS_pure (q arr2 lc u2)
end
end TS
namespace TS
local macro_rules | `(tactic| lcg_src) => `(tactic| try dsimp (zeta := false) (zetaUnused := false) only)
local macro_rules | `(tactic| lcg_sub) => `(tactic| (extract_lets +onlyGivenNames -underBinder -merge -useContext zz; subst zz; try dsimp (zeta := false) (zetaUnused := false) only))
open PySem PySem.W PyProof.Rows
def Runs (c : Keyed → Keyed → Bool) (arr : Array Keyed) : Nat → List (Nat × Nat × Nat) → Nat → Prop
  | s, [], e => s = e
  | s, x :: l, e => x.1 = s ∧ 0 < x.2.1 ∧ Ups c arr s x.2.1 ∧ Runs c arr (s + x.2.1) l e
section
variable {c : Keyed → Keyed → Bool} {arr arr' : Array Keyed}
theorem Runs.len : ∀ {l : List (Nat × Nat × Nat)} {s e : Nat}, Runs c arr s l e → l.length + s ≤ e
  | [], s, e, h => by rw [show s = e from h]; simp
  | x :: l, s, e, h => by
    have := h.2.2.2.len
    have := h.2.1
    rw [List.length_cons]
    omega
theorem Runs.same : ∀ {l : List (Nat × Nat × Nat)} {s e : Nat}, Runs c arr s l e → (∀ i, s ≤ i → i < e → arr'[i]? = arr[i]?) → Runs c arr' s l e
  | [], s, e, h, _ => h
  | x :: l, s, e, h, k => by
    have := h.2.2.2.len
    refine ⟨h.1, h.2.1, fun i j hij hj => ?_, h.2.2.2.same fun i a b => k i (by omega) b⟩
    rw [ka_of (k (s + i) (by omega) (by omega)), ka_of (k (s + j) (by omega) (by omega))]
    exact h.2.2.1 i j hij hj
theorem Runs.append : ∀ {l l' : List (Nat × Nat × Nat)} {s e : Nat}, Runs c arr s (l ++ l') e ↔ ∃ m, Runs c arr s l m ∧ Runs c arr m l' e
  | [], l', s, e => ⟨fun h => ⟨s, rfl, h⟩, fun ⟨m, h1, h2⟩ => by rw [show s = m from h1]; exact h2⟩
  | x :: l, l', s, e => ⟨fun h => by
      obtain ⟨m, h1, h2⟩ := Runs.append.mp h.2.2.2
      exact ⟨m, ⟨h.1, h.2.1, h.2.2.1, h1⟩, h2⟩, fun ⟨m, h1, h2⟩ => ⟨h1.1, h1.2.1, h1.2.2.1, Runs.append.mpr ⟨m, h1.2.2.2, h2⟩⟩⟩
theorem Runs.third : ∀ {l l' : List (Nat × Nat × Nat)} {s e : Nat}, Runs c arr s l e → l'.map (fun x => (x.1, x.2.1)) = l.map (fun x => (x.1, x.2.1)) → Runs c arr s l' e
  | [], [], _, _, h, _ => h
  | x :: l, y :: l', s, e, h, k => by
    simp only [List.map_cons, List.cons.injEq, Prod.mk.injEq] at k
    obtain ⟨⟨k1, k2⟩, k3⟩ := k
    refine ⟨by rw [k1]; exact h.1, by rw [k2]; exact h.2.1, by rw [k2]; exact h.2.2.1, by rw [k2]; exact h.2.2.2.third k3⟩
  | [], _ :: _, _, _, _, k => by simp at k
  | _ :: _, [], _, _, _, k => by simp at k
theorem pend_at {p : Array (Nat × Nat × Nat)} {i : Nat} (h : i + 1 < p.size) : ∃ l1 l2 x y, p.toList = l1 ++ x :: y :: l2 ∧ l1.length = i ∧ p[i]? = some x ∧ p[i + 1]? = some y ∧ ∀ z, ((p.setIfInBounds i z).eraseIdxIfInBounds (i + 1)).toList = l1 ++ z :: l2 := by
  have h1 : i < p.toList.length := by rw [Array.length_toList]; omega
  have h2 : i + 1 < p.toList.length := by rw [Array.length_toList]; omega
  have e : p.toList = p.toList.take i ++ p.toList[i] :: p.toList[i + 1] :: p.toList.drop (i + 2) := by
    rw [← List.drop_eq_getElem_cons h2, ← List.drop_eq_getElem_cons h1, List.take_append_drop]
  have hl : (p.toList.take i).length = i := by rw [List.length_take]; omega
  refine ⟨p.toList.take i, p.toList.drop (i + 2), p.toList[i], p.toList[i + 1], e, hl, by rw [← Array.getElem?_toList, List.getElem?_eq_getElem h1], by rw [← Array.getElem?_toList, List.getElem?_eq_getElem h2], fun z => ?_⟩
  rw [Array.eraseIdxIfInBounds]
  rw [dif_pos (by rw [Array.size_setIfInBounds]; omega), Array.toList_eraseIdx, Array.toList_setIfInBounds]
  generalize p.toList.take i = l1 at *
  generalize p.toList.drop (i + 2) = l2 at *
  rw [e, List.set_append_right _ _ (by omega), hl, Nat.sub_self, List.set_cons_zero, List.eraseIdx_append_of_length_le (by omega), hl, show i + 1 - i = 1 by omega]
  rfl
end
section
variable {prog : Program} {w : World} {A : Around} {s : Shared} {E : Value → Shared → Prop} {κ : SortKind} {M : Keyed → Prop} {c : Keyed → Keyed → Bool}
theorem ts_mergeP (L : Cmp prog w A s κ M c) {arr : Array Keyed} {p : Array (Nat × Nat × Nat)} {g i e : Nat} (G : Gd M arr) (R : Runs c arr 0 p.toList e) (he : e ≤ arr.size) (hi : i + 1 < p.size) {Q : Bool → SortSt → Prop}
    (q : ∀ arr' p' g', arr'.Perm arr → (∀ i, e ≤ i → arr'[i]? = arr[i]?) → Runs c arr' 0 p'.toList e → p'.size + 1 = p.size → Q true (Ms κ arr' p' g')) : wpS (model prog w) A E s (mergeAt' i) Q (Ms κ arr p g) := by
  obtain ⟨l1, l2, ⟨sa, na, p1⟩, ⟨sb, nb, p2⟩, ep, hl, h1, h2, hz⟩ := pend_at hi
  rw [ep] at R
  obtain ⟨m, R1, R2⟩ := Runs.append.mp R
  obtain ⟨e1, n1, u1, R3⟩ := R2
  obtain ⟨e2, n2, u2, R4⟩ := R3
  dsimp only at e1 n1 u1 e2 n2 u2 R4
  subst e1
  have l4 := R4.len
  have l1' := R1.len
  refine ts_mergeAt L h1 h2 e2 (by omega) n1 n2 (u1.srt (by omega)) (by rw [e2]; exact u2.srt (by omega)) G.mm G.nd fun arr' g' mm a1 a2 a3 => ?_
  have hpre : (arr.toList.take sa).length = sa := by rw [List.length_take, Array.length_toList]; omega
  have hmm : mm.length = na + nb := by rw [a2.length_eq, List.length_take, List.length_drop, Array.length_toList]; omega
  have eAll : arr.toList = arr.toList.take sa ++ (arr.toList.drop sa).take (na + nb) ++ arr.toList.drop (sb + nb) := by
    rw [e2, Nat.add_assoc, ← List.drop_drop, List.append_assoc, List.take_append_drop, List.take_append_drop]
  have pm : arr'.Perm arr := by
    rw [Array.perm_iff_toList_perm, a1]
    rw (config := { occs := .pos [3] }) [eAll]
    exact List.Perm.append_right _ (List.Perm.append_left _ a2)
  have out : ∀ i, i < sa ∨ sb + nb ≤ i → arr'[i]? = arr[i]? := fun i hi => by
    rw [← Array.getElem?_toList, ← Array.getElem?_toList, a1]
    rcases hi with hi | hi
    · rw [List.append_assoc, List.getElem?_append_left (by omega), List.getElem?_take_of_lt hi]
    · rw [List.getElem?_append_right (by rw [List.length_append]; omega), List.getElem?_drop, List.length_append]
      congr 1
      omega
  have seg : (arr'.toList.drop sa).take (na + nb) = mm := by
    rw [a1, List.append_assoc, List.drop_append_of_le_length (by omega), List.drop_of_length_le (by omega), List.nil_append, List.take_append_of_le_length (by omega), List.take_of_length_le (by omega)]
  refine q arr' _ g' pm (fun i hi => out i (by omega)) ?_ ?_
  · rw [hz]
    refine Runs.append.mpr ⟨sa, R1.same fun i _ b => out i (.inl b), rfl, by dsimp only; omega, ?_, ?_⟩
    · dsimp only
      refine Ups.of_srt (by rw [pm.size_eq]; omega) ?_
      rw [seg]; exact a3
    · dsimp only
      rw [show sa + (na + nb) = sa + na + nb by omega]
      exact R4.same fun i a _ => out i (.inr (by omega))
  · rw [← Array.length_toList, hz, ← Array.length_toList (xs := p), ep]
    simp only [List.length_append, List.length_cons]
    omega
end
end TS
namespace TS
local macro_rules | `(tactic| lcg_src) => `(tactic| try dsimp (zeta := false) (zetaUnused := false) only)
local macro_rules | `(tactic| lcg_sub) => `(tactic| (extract_lets +onlyGivenNames -underBinder -merge -useContext zz; subst zz; try dsimp (zeta := false) (zetaUnused := false) only))
open PySem PySem.W PyProof.Rows
section
variable {prog : Program} {w : World} {A : Around} {s : Shared} {E : Value → Shared → Prop} {κ : SortKind} {M : Keyed → Prop} {c : Keyed → Keyed → Bool}
theorem ite_lt {C : Prop} [Decidable C] {n : Nat} (h : 2 ≤ n) : (if C then n - 2 - 1 else n - 2) + 1 < n := by split <;> omega
theorem map_third {p : Array (Nat × Nat × Nat)} {j : Nat} {f : Nat × Nat × Nat → Nat × Nat × Nat} (hf : ∀ x, (f x).1 = x.1 ∧ (f x).2.1 = x.2.1) : (p.modify j f).toList.map (fun x => (x.1, x.2.1)) = p.toList.map (fun x => (x.1, x.2.1)) := by
  rw [Array.toList_modify]
  apply List.ext_getElem?
  intro i
  rw [List.getElem?_map, List.getElem?_map, List.getElem?_modify]
  cases p.toList[i]? with
  | none => rfl
  | some x =>
    by_cases z : j = i
    · show some ((if j = i then f x else x).1, (if j = i then f x else x).2.1) = _
      rw [if_pos z]
      show some ((f x).1, (f x).2.1) = _
      rw [(hf x).1, (hf x).2]
      rfl
    · show some ((if j = i then f x else x).1, (if j = i then f x else x).2.1) = _
      rw [if_neg z]
      rfl
theorem ts_runs (L : Cmp prog w A s κ M c) {a₀ : Array Keyed} (G : Gd M a₀) (h2 : 2 ≤ a₀.size) {g : Nat} {Q : Unit → SortSt → Prop} (q : ∀ arr p g, arr.Perm a₀ → Ups c arr 0 a₀.size → Q () (Ms κ arr p g)) :
    wpS (model prog w) A E s sortRuns' Q (Ms κ a₀ #[] g) := by
  rw [sortRuns'_eq]
  refine wpS_bind (wpS_get ?_)
  (lcg_src; lcg_sub; lcg_sub; lcg_sub)
  have esz : (arrOf (Ms κ a₀ #[] g)).size = a₀.size := rfl
  rw [esz]
  generalize minRun' a₀.size a₀.size 0 = minrun
  refine wpS_bind ?_
  rw [range_list]
  refine wpS_mono (Q := fun (r : Option Unit × Nat) st => ∃ arr p g, st = Ms κ arr p g ∧ r.1 = none ∧ arr.Perm a₀ ∧ Runs c arr 0 p.toList a₀.size)
    (ts_fuel0 (fun k (r : Option Unit × Nat) st => ∃ arr p g, st = Ms κ arr p g ∧ r.1 = none ∧ arr.Perm a₀ ∧ r.2 ≤ a₀.size ∧ Runs c arr 0 p.toList r.2 ∧ k = a₀.size - r.2) ?_ ?_ _ a₀.size _ _ (by rw [List.length_range']; exact Nat.le_refl _) ⟨a₀, #[], g, rfl, rfl, Array.Perm.refl _, Nat.zero_le _, rfl, rfl⟩) ?_
  · rintro _ k ⟨r0, lo⟩ st ⟨arr, p, g, rfl, rfl, pm, hlo, R, hk⟩
    dsimp only at hlo R hk
    (lcg_src; lcg_sub)
    refine wpS_ite (fun e => wpS_pure ⟨arr, p, g, rfl, rfl, pm, by rw [show lo = a₀.size by omega] at R; exact R⟩) fun e => ?_
    have sz := pm.size_eq
    refine wpS_bind (ts_count L (G.perm pm) (by omega) (by omega) fun n arr1 n1 n2 lc u => ?_)
    (lcg_src; lcg_sub)
    (extract_lets +onlyGivenNames -underBinder -merge -useContext J; clear_value (hJ : J = _))
    have R1 : Runs c arr1 0 p.toList lo := R.same fun i _ b => lc.out i (.inl b)
    have pm1 := lc.pm.trans pm
    have j : ∀ n arr1, 1 ≤ n → lo + n ≤ a₀.size → arr1.Perm a₀ → Runs c arr1 0 p.toList lo → Ups c arr1 lo n → wpS (model prog w) A E s (J () n) (TsR (fun (r : Option Unit × Nat) st => ∃ arr p g, st = Ms κ arr p g ∧ r.1 = none ∧ arr.Perm a₀ ∧ Runs c arr 0 p.toList a₀.size) fun (r : Option Unit × Nat) st => ∃ k', k' < k ∧ ∃ arr p g, st = Ms κ arr p g ∧ r.1 = none ∧ arr.Perm a₀ ∧ r.2 ≤ a₀.size ∧ Runs c arr 0 p.toList r.2 ∧ k' = a₀.size - r.2) (Ms κ arr1 p g) := fun n arr1 n1 n2 pm1 R1 u => by
      rw [hJ]
      lcg_src
      refine wpS_bind (wpS_get ?_)
      (extract_lets +onlyGivenNames -underBinder -merge -useContext J2; clear_value (hJ2 : J2 = _))
      have j2 : ∀ arr2 p2 g2, arr2.Perm a₀ → Runs c arr2 0 p2.toList lo → Ups c arr2 lo n → wpS (model prog w) A E s (J2 ()) (TsR (fun (r : Option Unit × Nat) st => ∃ arr p g, st = Ms κ arr p g ∧ r.1 = none ∧ arr.Perm a₀ ∧ Runs c arr 0 p.toList a₀.size) fun (r : Option Unit × Nat) st => ∃ k', k' < k ∧ ∃ arr p g, st = Ms κ arr p g ∧ r.1 = none ∧ arr.Perm a₀ ∧ r.2 ≤ a₀.size ∧ Runs c arr 0 p.toList r.2 ∧ k' = a₀.size - r.2) (Ms κ arr2 p2 g2) := fun arr2 p2 g2 pm2 R2 u2 => by
        rw [hJ2]
        lcg_src
        refine wpS_bind (wpS_modify ?_)
        (lcg_src; lcg_sub)
        refine wpS_pure ⟨_, show a₀.size - (lo + n) < k by omega, arr2, p2.push (lo, n, 0), g2, rfl, rfl, pm2, n2, ?_, rfl⟩
        rw [Array.toList_push]
        exact Runs.append.mpr ⟨lo, R2, rfl, by dsimp only; omega, u2, rfl⟩
      cases hb : p.back? with
      | none =>
        lcg_src
        exact j2 arr1 p g pm1 R1 u
      | some x =>
        obtain ⟨s1, m1, p1⟩ := x
        (lcg_src; lcg_sub)
        have p0 : 0 < p.size := by
          rcases Nat.eq_zero_or_pos p.size with z | z
          · rw [Array.back?_eq_getElem?, Array.getElem?_eq_none (by omega)] at hb; cases hb
          · exact z
        refine wpS_bind ?_
        rw [range_list]
        have lenp := R1.len
        rw [Array.length_toList] at lenp
        refine wpS_mono (Q := fun (r : Option Unit × Unit) st => r.1 = none ∧ ∃ arr p g, st = Ms κ arr p g ∧ arr.Perm a₀ ∧ Runs c arr 0 p.toList lo ∧ Ups c arr lo n)
          (ts_fuel (fun k (r : Option Unit × Unit) st => r.1 = none ∧ ∃ arr p g, st = Ms κ arr p g ∧ arr.Perm a₀ ∧ Runs c arr 0 p.toList lo ∧ Ups c arr lo n ∧ k = p.size - 1) ?_ _ (p.size - 1) _ _ (by rw [List.length_range']; omega) ⟨rfl, arr1, p, g, rfl, pm1, R1, u, rfl⟩) ?_
        · rintro _ k2 ⟨r0, _⟩ st ⟨rfl, arr3, p3, g3, rfl, pm3, R3, u3, hk3⟩
          have sz3 := pm3.size_eq
          lcg_src
          refine wpS_bind (wpS_get ?_)
          (lcg_src; lcg_sub)
          by_cases hp : p3.size > 1
          · rw [show (if (pendingOf (Ms κ arr3 p3 g3)).size > 1 then (pendingOf (Ms κ arr3 p3 g3))[(pendingOf (Ms κ arr3 p3 g3)).size - 2]? else none) = some p3[p3.size - 2] from (if_pos hp).trans (Array.getElem?_eq_getElem (show p3.size - 2 < p3.size by omega))]
            generalize p3[p3.size - 2] = y
            obtain ⟨y1, y2, older⟩ := y
            lcg_src
            refine wpS_ite (fun _ => wpS_pure ⟨rfl, arr3, p3, g3, rfl, pm3, R3, u3⟩) fun _ => ?_
            refine wpS_bind (ts_mergeP L (G.perm pm3) R3 (by omega) (show p3.size - 2 + 1 < p3.size by omega) fun arr4 p4 g4 a1 a2 a3 a4 => ?_)
            refine wpS_ite (fun z => nomatch z) fun _ => ?_
            refine wpS_pure ⟨_, show p4.size - 1 < k2 by omega, rfl, arr4, p4, g4, rfl, a1.trans pm3, a3, fun i j hij hj => ?_, rfl⟩
            rw [ka_of (a2 (lo + i) (by omega)), ka_of (a2 (lo + j) (by omega))]
            exact u3 i j hij hj
          · rw [show (if (pendingOf (Ms κ arr3 p3 g3)).size > 1 then (pendingOf (Ms κ arr3 p3 g3))[(pendingOf (Ms κ arr3 p3 g3)).size - 2]? else none) = none from if_neg hp]
            lcg_src
            exact wpS_pure ⟨rfl, arr3, p3, g3, rfl, pm3, R3, u3⟩
        · rintro ⟨r0, _⟩ st ⟨rfl, arr3, p3, g3, rfl, pm3, R3, u3⟩
          (lcg_src; lcg_sub)
          refine wpS_bind (wpS_modify ?_)
          refine j2 arr3 (p3.modify (p3.size - 1) _) g3 pm3 (R3.third (map_third ?_)) u3
          rintro ⟨x1, x2, x3⟩
          exact ⟨rfl, rfl⟩
    refine wpS_ite (fun hm => ?_) fun hm => ?_
    · refine wpS_bind (ts_rule ?_)
      (lcg_src; lcg_sub)
      refine wpS_bind (ts_bin L (G.perm pm1) (by rw [pm1.size_eq]; omega) n1 (by omega) u fun arr2 lc2 u2 => ?_)
      refine wpS_ite (fun z => nomatch z) fun _ => ?_
      (lcg_src; lcg_sub)
      exact j _ arr2 (by omega) (by omega) (lc2.pm.trans pm1) (R1.same fun i _ b => lc2.out i (.inl b)) u2
    · exact j n arr1 n1 (by omega) pm1 R1 u
  · rintro ⟨r0, lo⟩ st ⟨arr, p, g, rfl, rfl, pm, hlo, R, hk⟩
    dsimp only at hlo R hk
    exact ⟨arr, p, g, rfl, rfl, pm, by rw [show lo = a₀.size by omega] at R; exact R⟩
  rintro ⟨r0, lo⟩ st ⟨arr, p, g, rfl, rfl, pm, R⟩
  (lcg_src; lcg_sub; lcg_sub)
  refine wpS_bind ?_
  rw [range_list]
  have lenp := R.len
  rw [Array.length_toList] at lenp
  refine wpS_mono (Q := fun (r : Option Unit × Unit) st => r.1 = none ∧ ∃ arr p g, st = Ms κ arr p g ∧ arr.Perm a₀ ∧ Runs c arr 0 p.toList a₀.size ∧ p.size ≤ 1)
    (ts_fuel (fun k (r : Option Unit × Unit) st => r.1 = none ∧ ∃ arr p g, st = Ms κ arr p g ∧ arr.Perm a₀ ∧ Runs c arr 0 p.toList a₀.size ∧ k = p.size - 1) ?_ _ (p.size - 1) _ _ (by rw [List.length_range']; omega) ⟨rfl, arr, p, g, rfl, pm, R, rfl⟩) ?_
  · rintro _ k2 ⟨r0, _⟩ st ⟨rfl, arr3, p3, g3, rfl, pm3, R3, hk3⟩
    (lcg_src; lcg_sub)
    refine wpS_bind (wpS_get ?_)
    (lcg_src; lcg_sub)
    refine wpS_ite (fun e => wpS_pure ⟨rfl, arr3, p3, g3, rfl, pm3, R3, e⟩) fun e => ?_
    have e : ¬ p3.size ≤ 1 := e
    (lcg_src; lcg_sub; lcg_sub; lcg_sub)
    refine wpS_bind (ts_mergeP L (G.perm pm3) R3 (by rw [pm3.size_eq]; exact Nat.le_refl _) ?_ fun arr4 p4 g4 a1 a2 a3 a4 => ?_)
    · exact ite_lt (show 2 ≤ p3.size by omega)
    · refine wpS_ite (fun z => nomatch z) fun _ => ?_
      exact wpS_pure ⟨_, show p4.size - 1 < k2 by omega, rfl, arr4, p4, g4, rfl, a1.trans pm3, a3, rfl⟩
  · rintro ⟨r0, _⟩ st ⟨rfl, arr3, p3, g3, rfl, pm3, R3, hp⟩
    (lcg_src; lcg_sub)
    refine wpS_pure (q arr3 p3 g3 pm3 ?_)
    have hl : p3.toList.length ≤ 1 := by rw [Array.length_toList]; exact hp
    match hpl : p3.toList, hl with
    | [], _ =>
      rw [hpl] at R3
      have : 0 = a₀.size := R3
      omega
    | [x], _ =>
      rw [hpl] at R3
      obtain ⟨_, _, u, e⟩ := R3
      have e : 0 + x.2.1 = a₀.size := e
      rw [show x.2.1 = a₀.size by omega] at u
      exact u
end
end TS
namespace L2
open PySem PySem.Spec PySem.W PyProof.Rows
abbrev RK := Str × Int
def ltRK (a b : RK) : Bool := if a.1 = b.1 then decide (a.2 < b.2) else decide (a.1.cps.toList < b.1.cps.toList)
def KeyT (H : Hp) (v : V) (k : RK) : Prop := ∃ a, v = .ref a ∧ H a = some (.tup [.str k.1, .int k.2])
def KeyTs (H : Hp) : List V → List RK → Prop
  | [], [] => True
  | v :: vs, k :: ks => KeyT H v k ∧ KeyTs H vs ks
  | _, _ => False
theorem KeyT.same {H H' : Hp} {v : V} {k : RK} (h : KeyT H v k) (s : Same H H') : KeyT H' v k := by
  obtain ⟨a, e, h⟩ := h
  exact ⟨a, e, s a _ h⟩
theorem KeyTs.same {H H' : Hp} (s : Same H H') : ∀ {vs : List V} {ks : List RK}, KeyTs H vs ks → KeyTs H' vs ks
  | [], [], _ => trivial
  | _ :: _, _ :: _, h => ⟨h.1.same s, h.2.same s⟩
  | [], _ :: _, h => h.elim
  | _ :: _, [], h => h.elim
theorem KeyTs.snoc {H : Hp} : ∀ {vs : List V} {ks : List RK} {v : V} {k : RK}, KeyTs H vs ks → KeyT H v k → KeyTs H (vs ++ [v]) (ks ++ [k])
  | [], [], _, _, _, h => ⟨h, trivial⟩
  | _ :: _, _ :: _, _, _, h, h' => ⟨h.1, h.2.snoc h'⟩
  | [], _ :: _, _, _, h, _ => h.elim
  | _ :: _, [], _, _, h, _ => h.elim
theorem KeyTs.len {H : Hp} : ∀ {vs : List V} {ks : List RK}, KeyTs H vs ks → vs.length = ks.length
  | [], [], _ => rfl
  | _ :: _, _ :: _, h => by rw [List.length_cons, List.length_cons, h.2.len]
  | [], _ :: _, h => h.elim
  | _ :: _, [], h => h.elim
theorem KeyTs.at_ {H : Hp} : ∀ {vs : List V} {ks : List RK} {us : List Value} {i : Nat}, KeyTs H vs ks → Vals vs us → (hi : i < ks.length) → ∃ v, RelV v (us.getD i Value.none) ∧ KeyT H v (ks.getD i (⟨#[]⟩, 0))
  | v :: vs, k :: ks, us, 0, h, r, _ => by
    cases r with
    | cons r1 r2 => exact ⟨v, r1, h.1⟩
  | v :: vs, k :: ks, us, i + 1, h, r, hi => by
    cases r with
    | cons r1 r2 =>
      obtain ⟨v', a, b⟩ := KeyTs.at_ (i := i) h.2 r2 (by rw [List.length_cons] at hi; omega)
      exact ⟨v', by rw [List.getD_cons_succ]; exact a, by rw [List.getD_cons_succ]; exact b⟩
  | [], _ :: _, _, _, h, _, _ => h.elim
  | _ :: _, [], _, _, h, _, _ => h.elim
  | [], [], _, _, _, _, hi => absurd hi (Nat.not_lt_zero _)
section
variable {X : Cx} {pins : List (Addr × Obj)} {σ : St} {H : Hp} {s : Shared} {A : Around} {E : Value → Shared → Prop}
theorem key_obj (I : Inv X pins σ H s) {v : V} {u : Value} {k : RK} (h : KeyT H v k) (r : RelV v u) : ∃ a o t t' n, u = .ref a ∧ s.heap.get? a = some o ∧ o.cls = .type "tuple" ∧ o.data = .seq #[.str k.1 t, .int k.2 t'] n := by
  obtain ⟨a, rfl, ha⟩ := h
  obtain rfl : u = Value.ref a := r
  obtain ⟨its, rv, p, _⟩ := I.tuple (SqT.of ha)
  cases rv with
  | cons r1 rr =>
    cases rr with
    | cons r2 rr =>
      cases rr
      obtain ⟨t, rfl⟩ := r1
      obtain ⟨t', rfl⟩ := r2
      obtain ⟨o, ho, hc, n, hd⟩ := (show s.heap.IsTuple a _ from p)
      exact ⟨a, o, t, t', n, rfl, ho, hc, hd⟩
theorem ask_lt (I : Inv X pins σ H s) {v v' : V} {u u' : Value} {k k' : RK} (h : KeyT H v k) (h' : KeyT H v' k') (r : RelV v u) (r' : RelV v' u') {C : Bool → Shared → Prop} (q : C (ltRK k k') s) :
    wpAny (model X.prog X.w) A (keyLt' (tuples' true) u u') C E s := by
  obtain ⟨a, o, t1, t2, n, rfl, ho, _, hd⟩ := key_obj I h r
  obtain ⟨b, o', t3, t4, n', rfl, ho', _, hd'⟩ := key_obj I h' r'
  unfold ltRK at q
  refine kat_lt ho hd ho' hd' (kat_cons (wpAny_eqBool_str (kat_go (fun e => kat_yes (kat_cons (wpAny_eqBool_int (kat_go (fun e2 => kat_yes (kat_nil ?_)) (fun e2 => kat_no (kat_one _ _ (lt_int ?_))))))) (fun e => kat_no (oneLt_str ?_)))))
  · have e1 := of_decide_eq_true e
    have e2 := eq_of_beq e2
    rw [if_pos e1, e2, decide_eq_false (Int.lt_irrefl _)] at q
    exact q
  · have e1 := of_decide_eq_true e
    rw [if_pos e1] at q
    exact q
  · have e1 := of_decide_eq_false e
    rw [if_neg e1] at q
    exact q
theorem key_tups (I : Inv X pins σ H s) : ∀ {vs : List V} {ks : List RK} {us : List Value}, KeyTs H vs ks → Vals vs us → ∃ fs : List Value, KatTups s.heap us fs ∧ fs.length = ks.length ∧ ∀ f ∈ fs, ∃ z t, f = .str z t
  | [], [], us, _, r => by cases r; exact ⟨[], trivial, rfl, fun _ h => by cases h⟩
  | v :: vs, k :: ks, us, h, r => by
    cases r with
    | cons r1 r2 =>
      obtain ⟨fs, a1, a2, a3⟩ := key_tups I h.2 r2
      obtain ⟨a, o, t, t', n, rfl, ho, hc, hd⟩ := key_obj I h.1 r1
      refine ⟨.str k.1 t :: fs, KatTups.cons ho hc hd rfl a1, by rw [List.length_cons, List.length_cons, a2], fun f hf => ?_⟩
      rcases List.mem_cons.mp hf with rfl | hf
      · exact ⟨_, _, rfl⟩
      · exact a3 f hf
  | [], _ :: _, _, h, _ => h.elim
  | _ :: _, [], _, h, _ => h.elim
theorem ask_kind (I : Inv X pins σ H s) {vs : List V} {ks : List RK} {us : List Value} (h : KeyTs H vs ks) (r : Vals vs us) (h0 : 0 < ks.length) {Q : SortKind → Shared → Prop} (q : Q (tuples' true) s) : wpAny (model X.prog X.w) A (keyKind' us.toArray) Q E s := by
  obtain ⟨fs, a1, a2, a3⟩ := key_tups I h r
  refine kat_kind (T := .type "str") a1 (by omega) (fun f hf => ?_) rfl q
  obtain ⟨z, t, rfl⟩ := a3 f hf
  exact .now
end
theorem lx_irr (a : Str) : ¬ a.cps.toList < a.cps.toList := List.lt_irrefl _
theorem ltRK_trans {a b c : RK} (h1 : ltRK a b = true) (h2 : ltRK b c = true) : ltRK a c = true := by
  unfold ltRK at *
  by_cases e1 : a.1 = b.1
  · rw [if_pos e1] at h1
    by_cases e2 : b.1 = c.1
    · rw [if_pos e2] at h2
      rw [if_pos (e1.trans e2)]
      have h1 := of_decide_eq_true h1
      have h2 := of_decide_eq_true h2
      exact decide_eq_true (by omega)
    · rw [if_neg e2] at h2
      rw [if_neg (by rw [e1]; exact e2), e1]
      exact h2
  · rw [if_neg e1] at h1
    by_cases e2 : b.1 = c.1
    · rw [if_neg (by rw [← e2]; exact e1), ← e2]
      exact h1
    · rw [if_neg e2] at h2
      have h1 := of_decide_eq_true h1
      have h2 := of_decide_eq_true h2
      have h3 := List.lt_trans h1 h2
      have e3 : a.1 ≠ c.1 := fun z => by rw [z] at h1; exact absurd (List.lt_trans h1 h2) (lx_irr _)
      rw [if_neg e3]
      exact decide_eq_true h3
theorem ltRK_irr (a : RK) : ltRK a a = false := by
  unfold ltRK
  rw [if_pos rfl]
  exact decide_eq_false (by omega)
theorem ltRK_asy {a b : RK} (h : ltRK a b = true) : ltRK b a = false := by
  cases e : ltRK b a with
  | false => rfl
  | true => have := ltRK_trans h e; rw [ltRK_irr] at this; cases this
theorem ltRK_tot {a b : RK} (hne : a ≠ b) (h : ltRK a b = false) : ltRK b a = true := by
  unfold ltRK at *
  by_cases e : a.1 = b.1
  · rw [if_pos e] at h
    rw [if_pos e.symm]
    have h := of_decide_eq_false h
    have : a.2 ≠ b.2 := fun z => hne (Prod.ext e z)
    exact decide_eq_true (by omega)
  · rw [if_neg e] at h
    rw [if_neg (Ne.symm e)]
    have h := of_decide_eq_false h
    have h2 : b.1.cps.toList ≤ a.1.cps.toList := List.not_lt.mp h
    refine decide_eq_true ?_
    by_cases z : b.1.cps.toList < a.1.cps.toList
    · exact z
    · have h3 : a.1.cps.toList ≤ b.1.cps.toList := List.not_lt.mp z
      exact absurd (str_ext (List.le_antisymm h3 h2)) e
end L2
namespace L2
open PySem PySem.Spec PySem.W PyProof.Rows
section
variable {X : Cx} {pins : List (Addr × Obj)} {σ : St} {H : Hp} {s : Shared} {A : Around} {E : Value → Shared → Prop}
theorem Inv.adopt {h' : Heap} {D : Addr} {xs : List V} {t' : Nat} (I : Inv X pins σ H s) (f : FpOk X pins H D) (k : ∀ b o, b ≠ D → s.heap.get? b = some o → h'.get? b = some o) (new : ObjOk X.prog X.w (upd H D (.lst xs)) h' D (.lst xs)) :
    Inv X pins σ (upd H D (.lst xs)) { s with heap := h', toks := t' } := by
  obtain ⟨f0, f1, f2, f3, f4, f5⟩ := f
  have nn : ∀ b u, H b = some u → b ≠ D := fun b u e z => by rw [z, f0] at e; cases e
  have nc : ∀ b, b ∉ [D] → b ≠ D := fun b hb z => hb (by rw [z]; exact List.mem_singleton.mpr rfl)
  refine I.step (g' := s.gens) (d' := s.drawn) (ch := [D]) (fun b hb => ?_) (fun b o _ _ hc e _ => k b o (nc b hc) e) (fun b o _ _ hc e _ => ⟨o.slots, k b o (nc b hc) e⟩) (fun b o hc e q => by rw [upd_ne (nc b hc)]; exact q)
    (fun b o hc e => ⟨o, k b o (nc b hc) e⟩) (fun b xs e => by rw [upd_ne (nn b _ e)]; exact e) (fun b o u e => by rw [upd_ne (nn b _ e)]; exact e) (fun b ps e => ⟨#[], by rw [upd_ne (nn b _ e), e]; simp⟩) (fun m hm => ?_) (fun b u e => ?_) I.bare
  · rw [List.mem_singleton.mp hb]
    exact ⟨f3, f1, f4, f5⟩
  · obtain ⟨o, es, ep, ho, r⟩ := hm
    exact ⟨o, es, ep, k _ o (Ne.symm f1) ho, r⟩
  · by_cases hb : b = D
    · subst hb
      rw [upd_same] at e
      cases e
      exact new
    · rw [upd_ne hb] at e
      refine (I.hok b u e).stay (fun c v hc q => k c v ?_ q) (fun c q => by rw [upd_ne (nn c _ q)]; exact q) fun c xs q => by rw [upd_ne (nn c _ q)]; exact q
      rcases hc with z | z
      · rw [z]; exact nn b u e
      · exact nn c _ z
theorem FpOk.stack {b : Addr} (I : Inv X pins σ H s) (f : FpOk X pins H b) : b ∉ frs X.stack := fun z => by
  rcases List.mem_cons.mp (I.stkSub b z) with z | z
  · exact f.2.1 z
  · exact f.2.2.1 z
theorem FpOk.at_ {H' : Hp} {b : Addr} (f : FpOk X pins H b) (n : H' b = none) : FpOk X pins H' b := ⟨n, f.2⟩
structure SK (X : Cx) (pins : List (Addr × Obj)) (σ : St) (H : Hp) (D kS : Addr) (e1 : Nat) (ks : List Value) (rk : List RK) (Hi : Hp) (s : Shared) : Prop where
  I : Inv X pins σ Hi s
  sm : Same H Hi
  fk : FpOk X pins Hi kS
  fD : FpOk X pins Hi D
  ok : ∃ e, s.heap.get? kS = some (seqObj "list" ks.toArray e)
  oD : s.heap.get? D = some (seqObj "list" #[] e1)
  ne : D ≠ kS
  kt : ∃ kvs, Vals kvs ks ∧ KeyTs Hi kvs rk
variable {kf : V → RK} {fv : Value} {D kS : Addr} {e1 : Nat}
def KRun (X : Cx) (A : Around) (fv : Value) (H : Hp) (kf : V → RK) (x : V) : Prop := ∀ (s : Shared) (Hi : Hp) (u : Value), Env0 X.prog X.w X.K X.mg X.base A X.stack s Hi → X.K.In s.heap → Same H Hi → RelV x u →
  wpAny (model X.prog X.w) A (call fv [u]) (fun v s' => CE X.stack X.prog X.w Hi s (fun v H2 => ∃ a, v = .ref a ∧ Same Hi H2 ∧ H2 a = some (.tup [.str (kf x).1, .int (kf x).2])) v s') (fun _ _ => False) s
theorem key_call (hA : A.frames = X.A.frames) {ks : List Value} {rk : List RK} {Hi : Hp} {xv : V} {u : Value} (S : SK X pins σ H D kS e1 ks rk Hi s) (hk : KRun X A fv H kf xv) (ru : RelV xv u)
    (hz : ks.length < 100000) {R : Shared → Prop} (q : ∀ kv ks' Hj s', ks' = ks ++ [kv] → SK X pins σ H D kS e1 ks' (rk ++ [kf xv]) Hj s' → R s') :
    wpAny (model X.prog X.w) A (call fv [u]) (fun v s1 => wpAny (model X.prog X.w) A (Builtin.List.listUpdate (.ref kS) (·.push v)) (fun _ s2 => R s2) E s1) (fun _ _ => False) s := by
  have e0 : Env0 X.prog X.w X.K X.mg X.base A X.stack s Hi := ⟨hA.trans S.I.ok.frames, S.I.env0.mod, S.I.env0.bs, S.I.env0.bsz, S.I.env0.funs, S.I.env0.frf, S.I.env0.hok, S.I.env0.bare⟩
  refine wpAny_mono (hk s Hi u e0 S.I.kIn S.sm ru) (fun v s' hq => ?_) fun _ _ z => z
  obtain ⟨kvv, Hj, os, bare, un, hok, rk1, a, rfl, sj, hj⟩ := hq
  obtain rfl : v = Value.ref a := rk1
  have I2 : Inv X pins σ Hj s' := S.I.call' os un hok bare (ch := []) (fun b z => absurd z (by simp))
  obtain ⟨e, ok⟩ := S.ok
  have gk := un.keep kS _ ok S.fk.1 (S.fk.stack S.I) (by simp)
  have gD := un.keep D _ S.oD S.fD.1 (S.fD.stack S.I) (by simp)
  have nk := un.free kS _ ok S.fk.1 (by simp)
  have nD := un.free D _ S.oD S.fD.1 (by simp)
  refine listUpdate_at gk rfl ?_ (by rw [List.size_toArray, sizeLine_eq]; omega) (by rw [Array.size_push, List.size_toArray, sizeLine_eq]; omega)
  have ep : (ks.toArray).push (.ref a) = (ks ++ [Value.ref a]).toArray := by simp
  have gk2 := get?_update_seq gk (·.push (Value.ref a))
  rw [ep] at gk2
  obtain ⟨_, g1, g2, g3, g4, g5⟩ := S.fk
  obtain ⟨kvs, rv2, kt⟩ := S.kt
  refine q (.ref a) _ Hj { s' with heap := s'.heap.update kS (Obj.mapSeq (·.push (Value.ref a))) } rfl ⟨?_, fun b o e => sj b o (S.sm b o e), (S.fk.at_ nk), (S.fD.at_ nD), ⟨_, gk2⟩, ?_, S.ne, ⟨kvs ++ [.ref a], rv2.append (.cons (show RelV (V.ref a) (Value.ref a) from rfl) .nil), (kt.same sj).snoc ⟨a, rfl, hj⟩⟩⟩
  · exact I2.turned (t' := s'.toks) (it := kS) (fun b o hb e => by rw [Heap.get?_update_other _ _ (Ne.symm hb)]; exact e) nk g1 g3 g4 g5
  · rw [Heap.get?_update_other _ _ (Ne.symm S.ne)]
    exact gD
end
end L2
namespace L2
open PySem PySem.Spec PySem.W PyProof.Rows TS
section
variable {X : Cx} {pins : List (Addr × Obj)} {σ : St} {H : Hp} {s : Shared} {A : Around} {E : Value → Shared → Prop}
variable {kf : V → RK} {fv : Value} {D kS : Addr} {e1 : Nat}
theorem keys_loop (hA : A.frames = X.A.frames) {body : Value → PUnit → Sem (ForInStep PUnit)}
    (hb : ∀ u (s : Shared) (R : Shared → Prop), wpAny (model X.prog X.w) A (call fv [u]) (fun v s1 => wpAny (model X.prog X.w) A (Builtin.List.listUpdate (.ref kS) (·.push v)) (fun _ s2 => R s2) E s1) (fun _ _ => False) s → wpAny (model X.prog X.w) A (body u ⟨⟩) (fun r s' => r = .yield ⟨⟩ ∧ R s') E s) :
    ∀ {xs : List V} {us ks : List Value} {rk : List RK} {Hi : Hp} {s : Shared}, Vals xs us → (∀ y ∈ xs, KRun X A fv H kf y) → ks.length + us.length < 100000 → SK X pins σ H D kS e1 ks rk Hi s →
      wpAny (model X.prog X.w) A (forIn us PUnit.unit body) (fun _ s' => ∃ ks' Hj, SK X pins σ H D kS e1 ks' (rk ++ xs.map kf) Hj s' ∧ ks'.length = ks.length + us.length) E s
  | [], us, ks, rk, Hi, s, r, _, _, S => by
    cases r
    rw [List.forIn_nil]
    exact wpAny_pure ⟨ks, Hi, by rw [List.map_nil, List.append_nil]; exact S, rfl⟩
  | y :: xs, us, ks, rk, Hi, s, r, hk, hz, S => by
    cases r with
    | @cons _ u _ us r1 r2 =>
      rw [List.length_cons] at hz
      rw [List.forIn_cons]
      refine wpAny_bind (wpAny_mono (hb u s (fun s' => ∃ kv Hj, SK X pins σ H D kS e1 (ks ++ [kv]) (rk ++ [kf y]) Hj s') (key_call hA S (hk y List.mem_cons_self) r1 (by omega) fun kv ks' Hj s' e S' => ⟨kv, Hj, e ▸ S'⟩)) (fun r s' hq => ?_) fun _ _ z => z)
      obtain ⟨rfl, kv, Hj, S'⟩ := hq
      refine wpAny_mono (keys_loop hA hb r2 (fun z hz' => hk z (List.mem_cons_of_mem _ hz')) (by rw [List.length_append, List.length_singleton]; omega) S') (fun _ s2 ⟨ks2, Hk, S2, l2⟩ => ⟨ks2, Hk, ?_, ?_⟩) fun _ _ z => z
      · rw [List.map_cons, ← List.singleton_append, ← List.append_assoc]; exact S2
      · rw [l2, List.length_append, List.length_singleton, List.length_cons]; omega
theorem sort_tail {st : SortSt} {out : List Value} {xs' : List V} {ks : List Value} {rk : List RK} {Hi : Hp} (hout : (arrOf st).map (·.2) = out.toArray) (hz : out.length < 100000) (hkz : ks.length < 100000) (hf : failedOf st = none) (S : SK X pins σ H D kS e1 ks rk Hi s) (rv : Vals xs' out)
    {R : PySem.Fin → Shared → Prop} (q : ∀ s' H1, Inv X pins σ H1 s' → Same H H1 → H1 D = some (.lst xs') → R (.done (.ret .none)) s') : wpAny (model X.prog X.w) A (ksk_tail D false e1 (.ref kS) st) R E s := by
  obtain ⟨e, ok⟩ := S.ok
  obtain ⟨_, g1, g2, g3, g4, g5⟩ := S.fk
  unfold ksk_tail
  dsimp only
  rw [hout]
  refine wpAny_bind (listUpdate_at ok rfl ?_ (by rw [List.size_toArray, sizeLine_eq]; omega) (Nat.zero_le _))
  have I2 : Inv X pins σ Hi { s with heap := s.heap.update kS (Obj.mapSeq fun _ => #[]) } := S.I.turned (t' := s.toks) (it := kS) (fun b o hb e => by rw [Heap.get?_update_other _ _ (Ne.symm hb)]; exact e) S.fk.1 g1 g3 g4 g5
  have gD : (s.heap.update kS (Obj.mapSeq fun _ => #[])).get? D = some (seqObj "list" #[] e1) := by rw [Heap.get?_update_other _ _ (Ne.symm S.ne)]; exact S.oD
  refine wpAny_bind (wpAny_letGo (wpAny_bind (seqEpoch_at gD rfl ?_)))
  refine wpAny_bind (listUpdate_at gD rfl ?_ (Nat.zero_le _) (by show out.toArray.size ≤ _; rw [List.size_toArray, sizeLine_eq]; omega))
  rw [hf]
  simp only [bne_self_eq_false, Bool.false_eq_true, if_false]
  have gE := get?_update_seq gD fun _ => out.toArray
  have I3 : Inv X pins σ (upd Hi D (.lst xs')) { s with heap := (s.heap.update kS (Obj.mapSeq fun _ => #[])).update D (Obj.mapSeq fun _ => out.toArray) } :=
    I2.adopt (t' := s.toks) S.fD (fun b o hb e => by rw [Heap.get?_update_other _ _ (Ne.symm hb)]; exact e) ⟨by rw [rv.length, sizeLine_eq]; omega, out, _, rv, gE⟩
  refine wpAny_pure (q _ _ I3 (fun b o e => ?_) upd_same)
  have h1 := S.sm b o e
  rw [upd_ne (fun z => by rw [z, S.fD.1] at h1; cases h1)]
  exact h1
def rkOf (Hi : Hp) (x : Keyed) : RK := match x.1 with
  | .ref a => match Hi a with
    | some (.tup [.str k1, .int k2]) => (k1, k2)
    | _ => (⟨#[]⟩, 0)
  | _ => (⟨#[]⟩, 0)
theorem rkOf_at {Hi : Hp} {v : V} {u i : Value} {k : RK} (h : KeyT Hi v k) (r : RelV v u) : rkOf Hi (u, i) = k := by
  obtain ⟨a, rfl, ha⟩ := h
  obtain rfl : u = Value.ref a := r
  unfold rkOf
  dsimp only
  rw [ha]
theorem zip_rk {Hi : Hp} : ∀ {vs : List V} {rk : List RK} {ks us : List Value}, KeyTs Hi vs rk → Vals vs ks → ks.length = us.length → (ks.zip us).map (rkOf Hi) = rk
  | [], [], ks, us, _, r, _ => by cases r; rfl
  | v :: vs, k :: rk, ks, us, h, r, hl => by
    cases r with
    | @cons _ u _ ks r1 r2 =>
      cases us with
      | nil => simp at hl
      | cons i us =>
        rw [List.zip_cons_cons, List.map_cons, rkOf_at h.1 r1, zip_rk h.2 r2 (by simpa using hl)]
  | [], _ :: _, _, _, h, _, _ => h.elim
  | _ :: _, [], _, _, h, _, _ => h.elim
theorem zip_key {Hi : Hp} : ∀ {vs : List V} {rk : List RK} {ks us : List Value} {x : Keyed}, KeyTs Hi vs rk → Vals vs ks → x ∈ ks.zip us → ∃ v k, KeyT Hi v k ∧ RelV v x.1
  | [], [], ks, us, x, _, r, hx => by cases r; simp at hx
  | v :: vs, k :: rk, ks, us, x, h, r, hx => by
    cases r with
    | @cons _ u _ ks r1 r2 =>
      cases us with
      | nil => simp at hx
      | cons i us =>
        rw [List.zip_cons_cons] at hx
        rcases List.mem_cons.mp hx with rfl | hx
        · exact ⟨v, k, h.1, r1⟩
        · exact zip_key h.2 r2 hx
  | [], _ :: _, _, _, _, h, _, _ => h.elim
  | _ :: _, [], _, _, _, h, _, _ => h.elim
theorem map_inj_mem {α β : Type} {f : α → β} : ∀ {l : List α}, (l.map f).Nodup → ∀ {x y : α}, x ∈ l → y ∈ l → f x = f y → x = y
  | a :: l, nd, x, y, hx, hy, e => by
    rw [List.map_cons, List.nodup_cons] at nd
    rcases List.mem_cons.mp hx with h1 | h1 <;> rcases List.mem_cons.mp hy with h2 | h2
    · rw [h1, h2]
    · exact absurd (by rw [← h1, e]; exact List.mem_map.mpr ⟨y, h2, rfl⟩) nd.1
    · exact absurd (by rw [← h2, ← e]; exact List.mem_map.mpr ⟨x, h1, rfl⟩) nd.1
    · exact map_inj_mem nd.2 h1 h2 e
theorem nodup_of_map {α β : Type} {f : α → β} : ∀ {l : List α}, (l.map f).Nodup → l.Nodup
  | [], _ => List.nodup_nil
  | a :: l, nd => by
    rw [List.map_cons, List.nodup_cons] at nd
    exact List.nodup_cons.mpr ⟨fun h => nd.1 (List.mem_map.mpr ⟨a, h, rfl⟩), nodup_of_map nd.2⟩
theorem perm_lift {α β : Type} {f : α → β} {l m : List β} (h : l.Perm m) : ∀ L : List α, m = L.map f → ∃ L' : List α, L'.Perm L ∧ l = L'.map f := by
  induction h with
  | nil => exact fun L e => ⟨[], by cases L with | nil => exact .nil | cons _ _ => simp at e, rfl⟩
  | cons x p ih =>
    intro L e
    cases L with
    | nil => simp at e
    | cons a L =>
      rw [List.map_cons, List.cons.injEq] at e
      obtain ⟨L', h1, h2⟩ := ih L e.2
      exact ⟨a :: L', h1.cons a, by rw [List.map_cons, ← h2, e.1]⟩
  | swap x y l =>
    intro L e
    match L, e with
    | a :: b :: L, e =>
      simp only [List.map_cons, List.cons.injEq] at e
      exact ⟨b :: a :: L, List.Perm.swap a b L, by simp only [List.map_cons, List.cons.injEq]; exact ⟨e.2.1, e.1, e.2.2⟩⟩
  | trans p q ih1 ih2 =>
    intro L e
    obtain ⟨L1, h1, h2⟩ := ih2 L e
    obtain ⟨L2, h3, h4⟩ := ih1 L1 h2
    exact ⟨L2, h3.trans h1, h4⟩
theorem zip3 {Hi : Hp} {kf : V → RK} : ∀ {xs kvs : List V} {ks us : List Value}, Vals xs us → KeyTs Hi kvs (xs.map kf) → Vals kvs ks → ∃ L : List (Keyed × V), L.map (·.1) = ks.zip us ∧ L.map (·.2) = xs ∧ ∀ t ∈ L, RelV t.2 t.1.2 ∧ rkOf Hi t.1 = kf t.2
  | [], [], ks, us, r, _, r2 => by
    cases r; cases r2
    exact ⟨[], rfl, rfl, fun t h => absurd h (by simp)⟩
  | x :: xs, v :: kvs, ks, us, r, h, r2 => by
    cases r with
    | @cons _ u _ us a1 a2 =>
      cases r2 with
      | @cons _ k _ ks b1 b2 =>
        obtain ⟨L, h1, h2, h3⟩ := zip3 a2 h.2 b2
        refine ⟨((k, u), x) :: L, by rw [List.map_cons, h1, List.zip_cons_cons], by rw [List.map_cons, h2], fun t ht => ?_⟩
        rcases List.mem_cons.mp ht with rfl | ht
        · exact ⟨a1, rkOf_at h.1 b1⟩
        · exact h3 t ht
  | [], _ :: _, _, _, _, h, _ => h.elim
  | _ :: _, [], _, _, _, h, _ => h.elim
theorem vals_map {α : Type} {f : α → V} {g : α → Value} : ∀ {l : List α}, (∀ t ∈ l, RelV (f t) (g t)) → Vals (l.map f) (l.map g)
  | [], _ => .nil
  | a :: l, h => .cons (h a List.mem_cons_self) (vals_map fun t ht => h t (List.mem_cons_of_mem _ ht))
def RisesK (kf : V → RK) (xs : List V) : Prop := xs.Pairwise fun a b => ltRK (kf a) (kf b) = true
theorem cmp_rk {kvs : List V} {rk : List RK} {ks us : List Value} {Hi : Hp} (I : Inv X pins σ Hi s) (kt : KeyTs Hi kvs rk) (rv : Vals kvs ks) (hl : ks.length = us.length) (nd : rk.Nodup) :
    Cmp X.prog X.w A s (tuples' true) (fun x => x ∈ ks.zip us) (fun x y => ltRK (rkOf Hi x) (rkOf Hi y)) where
  ask := fun x y hx hy C q => by
    obtain ⟨v, k, h1, r1⟩ := zip_key kt rv hx
    obtain ⟨v', k', h2, r2⟩ := zip_key kt rv hy
    refine ask_lt I h1 h2 r1 r2 ?_
    rw [show rkOf Hi x = k from rkOf_at (i := x.2) h1 r1, show rkOf Hi y = k' from rkOf_at (i := y.2) h2 r2] at q
    exact q
  tot := fun x y hx hy ne e => ltRK_tot (fun z => ne (map_inj_mem (by rw [zip_rk kt rv hl]; exact nd) hx hy z)) e
  asy := fun x y _ _ e => ltRK_asy e
  trans := fun x y z _ _ _ e1 e2 => ltRK_trans e1 e2
theorem sort_end {xs : List V} {us ks : List Value} {Hi : Hp} (S : SK X pins σ H D kS e1 ks (xs.map kf) Hi s) (r : Vals xs us) (hl : ks.length = us.length) (hz : us.length < 100000) (nd : (xs.map kf).Nodup)
    {R : PySem.Fin → Shared → Prop} (q : ∀ xs' s' H1, xs'.Perm xs → RisesK kf xs' → Inv X pins σ H1 s' → Same H H1 → H1 D = some (.lst xs') → R (.done (.ret .none)) s') : wpAny (model X.prog X.w) A (ksk_end D false us.toArray e1 (.ref kS) ks.toArray) R E s := by
  have hx := r.length
  unfold ksk_end
  dsimp only
  simp only [Bool.false_eq_true, if_false]
  by_cases h2 : us.toArray.size < 2
  · rw [if_pos h2, if_pos h2]
    refine wpAny_bind (wpAny_pure (wpAny_bind (wpAny_pure ?_)))
    dsimp only
    rw [List.size_toArray] at h2
    refine sort_tail (out := us) (xs' := xs) ?_ hz (by omega) rfl S r fun s' H1 a b c => q xs s' H1 (List.Perm.refl _) ?_ a b c
    · show ((ks.toArray).zip us.toArray).map (·.2) = us.toArray
      apply Array.toList_inj.mp
      simp [List.map_snd_zip, hl]
    · unfold RisesK
      match xs, hx with
      | [], _ => exact List.Pairwise.nil
      | [a], _ => exact List.pairwise_singleton _ _
      | a :: b :: l, hx => rw [List.length_cons, List.length_cons] at hx; omega
  · rw [if_neg h2, if_neg h2]
    rw [List.size_toArray] at h2
    obtain ⟨kvs, rv, kt⟩ := S.kt
    have hkl : (xs.map kf).length = us.length := by rw [List.length_map, hx]
    refine wpAny_bind (ask_kind S.I kt rv (by omega) ?_)
    have ez : ((ks.toArray).zip us.toArray).toList = ks.zip us := by simp
    have esz : ((ks.toArray).zip us.toArray).size = us.length := by simp [hl]
    have C := cmp_rk (A := A) (us := us) S.I kt rv hl nd
    have G : Gd (fun x => x ∈ ks.zip us) ((ks.toArray).zip us.toArray) := ⟨fun x hx => by rw [ez] at hx; exact hx, by rw [ez]; exact nodup_of_map (f := rkOf Hi) (by rw [zip_rk kt rv hl]; exact nd)⟩
    refine wpAny_bind (wpAny_mono (show wpAny (model X.prog X.w) A (sortRuns'.run (SortSt.mk' (tuples' true) ((ks.toArray).zip us.toArray) #[] 7 none)) _ E s from ts_runs (E := E) C G (by omega) (g := 7) (Q := fun _ st => ∃ arr p g, st = Ms (tuples' true) arr p g ∧ arr.Perm ((ks.toArray).zip us.toArray) ∧ Ups (fun x y => ltRK (rkOf Hi x) (rkOf Hi y)) arr 0 us.length) fun arr p g a1 a2 => ⟨arr, p, g, rfl, a1, by rw [esz] at a2; exact a2⟩) ?_ fun _ _ z => z)
    rintro ⟨⟨⟩, st⟩ s' ⟨rfl, arr, p, g, e, pm, up⟩
    dsimp only at e
    subst e
    dsimp only
    have pm' := Array.perm_iff_toList_perm.mp pm
    rw [ez] at pm'
    obtain ⟨L, l1, l2, l3⟩ := zip3 r kt rv
    obtain ⟨L', p1, p2⟩ := perm_lift pm' L l1.symm
    have l3' : ∀ t ∈ L', RelV t.2 t.1.2 ∧ rkOf Hi t.1 = kf t.2 := fun t ht => l3 t (p1.mem_iff.mp ht)
    have hout : (arrOf (Ms (tuples' true) arr p g)).map (·.2) = (L'.map fun t => t.1.2).toArray := by
      apply Array.toList_inj.mp
      rw [Array.toList_map]
      show arr.toList.map (·.2) = _
      rw [p2, List.map_map]
      rfl
    have len : L'.length = us.length := by
      have := congrArg List.length p2
      rw [List.length_map, Array.length_toList, pm.size_eq, esz] at this
      exact this.symm
    refine sort_tail (out := L'.map fun t => t.1.2) (xs' := L'.map (·.2)) hout (by rw [List.length_map]; omega) (by omega) rfl S (vals_map fun t ht => (l3' t ht).1) fun s' H1 a b c => q _ s' H1 ?_ ?_ a b c
    · rw [← l2]
      exact p1.map _
    · unfold RisesK
      rw [List.pairwise_map]
      have sz : 0 + us.length ≤ arr.size := by rw [pm.size_eq, esz]; omega
      have := up.srt sz
      rw [List.drop_zero, List.take_of_length_le (by rw [Array.length_toList, pm.size_eq, esz]; exact Nat.le_refl _), p2] at this
      have := List.pairwise_map.mp this
      exact this.imp_of_mem fun {a b} ha hb h => by
        dsimp only at h
        rw [(l3' a ha).2, (l3' b hb).2] at h
        exact h
end
end L2
namespace L2
open PySem PySem.Spec PySem.W PyProof.Rows TS
section
variable {X : Cx} {pins : List (Addr × Obj)} {σ : St} {H : Hp} {s : Shared} {A : Around} {E : Value → Shared → Prop}
variable {kf : V → RK} {fv : Value} {D kS : Addr} {e1 : Nat}
theorem sort_rest {xs : List V} {us : List Value} (hA : A.frames = X.A.frames) (S : SK X pins σ H D kS e1 [] [] H s) (r : Vals xs us) (hk : ∀ y ∈ xs, KRun X A fv H kf y) (hz : us.length < 100000) (nd : (xs.map kf).Nodup)
    {R : PySem.Fin → Shared → Prop} (q : ∀ xs' s' H1, xs'.Perm xs → RisesK kf xs' → Inv X pins σ H1 s' → Same H H1 → H1 D = some (.lst xs') → R (.done (.ret .none)) s') : wpAny (model X.prog X.w) A (ksk_rest D fv false us.toArray e1 (.ref kS)) R E s := by
  unfold ksk_rest
  refine wpAny_bind (wpAny_rule ?_)
  rw [List.forIn_toArray]
  refine wpAny_bind (wpAny_mono (keys_loop (E := E) hA (fun u s R h => ?_) r hk (by simpa using hz) S) (fun _ s' hq => ?_) fun _ _ z => z)
  · refine wpAny_bind (wpAny_attempt (wpAny_mono h (fun v s1 h1 => ?_) fun _ _ z => z.elim))
    exact wpAny_bind (wpAny_mono h1 (fun _ s2 h2 => wpAny_pure ⟨rfl, h2⟩) fun _ _ z => z)
  · obtain ⟨ks, Hj, S', hl⟩ := hq
    obtain ⟨e, ok⟩ := S'.ok
    refine wpAny_bind (listItems_at ok rfl ?_)
    refine sort_end S' r (by simpa using hl) hz nd fun xs' s' H1 a b c d f => q xs' s' H1 a b c d f
theorem sorted_go {p : Addr} {xs : List V} {us : List Value} {kw : List (Str × Value)} (I : Inv X pins σ H s) (r : Vals xs us) (hp : s.heap.IsList p us.toArray) (hk : ∀ y ∈ xs, KRun X X.A.in1.in1 fv H kf y) (hz : xs.length < 100000) (nd : (xs.map kf).Nodup)
    (ha1 : argsOk "sorted" { pos := [.ref p], kw := kw }) (ha2 : ∀ x : Addr, argsOk "list.sort" { pos := [.ref x], kw := kw }) (ht : ∀ x : Addr, Builtin.«list.sort» { pos := [.ref x], kw := kw } = ksk_tree x fv false) {Q : VK}
    (q : ∀ xs' l H1, xs'.Perm xs → RisesK kf xs' → H l = none → Same H H1 → H1 l = some (.lst xs') → Q (.ref l) H1) :
    wpAny (model X.prog X.w) X.A (call (.builtin "sorted") [.ref p] kw) (EP X pins σ Q) E s := by
  have hz : us.length < 100000 := by rw [← r.length]; exact hz
  have hl := sizeLine_eq
  refine call_function_entry_kw kind_sorted plain_sorted entry_sorted ha1 ?_
  show wpAny _ _ (checkCount "sorted" 1 1 1 >>= _) _ _ _
  refine wpAny_bind (wpAny_pure ?_)
  refine wpAny_bind (collect_list hp ?_ (by omega))
  refine wpAny_bind (wpAny_newList ?_ (by omega))
  generalize hh1 : (s.heap.push (seqObj "list" #[] 0)).update s.heap.objs.size (Obj.mapSeq fun x => x ++ us.toArray) = h1
  have k1 : ∀ b u, s.heap.get? b = some u → h1.get? b = some u := fun b u e => by
    rw [← hh1, Heap.get?_update_other _ _ (Nat.ne_of_gt (Heap.lt_size e))]
    exact Heap.get?_push_of_some _ e
  have z1 : h1.objs.size = s.heap.objs.size + 1 := by rw [← hh1, Heap.size_update, size_push']
  dsimp only
  obtain ⟨D, hD⟩ : ∃ D, h1.objs.size = D := ⟨_, rfl⟩
  rw [hD]
  have gD : (h1.push ⟨.type "list", none, .seq us.toArray 0, #[]⟩).get? D = some (seqObj "list" us.toArray 0) := by
    rw [← hD]
    exact Heap.get?_push_size _ rfl
  refine wpAny_bind (wpAny_holding (wpAny_call_entry_kw slot_list_sort ⟨_, gD, rfl⟩ entry_list_sort ?_ (ha2 D)))
  rw [ht]
  unfold ksk_tree
  refine wpAny_bind (listItems_at gD rfl ?_)
  refine wpAny_bind (listUpdate_at gD rfl ?_ (by rw [List.size_toArray]; omega) (Nat.zero_le _))
  have gD2 := get?_update_seq gD fun _ => #[]
  refine wpAny_bind (seqEpoch_at gD2 rfl ?_)
  generalize (if ((#[] : Array Value).size == us.toArray.size) = true then 0 else 0 + 1) = e1 at gD2
  refine wpAny_bind (wpAny_newTuple ?_ (by simp; omega))
  refine wpAny_bind (wpAny_newList ?_ (Nat.zero_le _))
  refine wpAny_holding ?_
  have hDs : s.heap.objs.size < D := by rw [← hD, z1]; exact Nat.lt_succ_self _
  have gD3 : ∀ o1 o2, (((((h1.push ⟨.type "list", none, .seq us.toArray 0, #[]⟩).update D (Obj.mapSeq fun _ => #[])).push o1).push o2).get? D) = some (seqObj "list" #[] e1) := fun o1 o2 => Heap.get?_push_of_some _ (Heap.get?_push_of_some _ gD2)
  have k5 : ∀ o1 o2 b u, s.heap.get? b = some u → (((((h1.push ⟨.type "list", none, .seq us.toArray 0, #[]⟩).update D (Obj.mapSeq fun _ => #[])).push o1).push o2).get? b) = some u := fun o1 o2 b u e => by
    refine Heap.get?_push_of_some _ (Heap.get?_push_of_some _ ?_)
    rw [Heap.get?_update_other _ _ (Nat.ne_of_gt (Nat.lt_trans (Heap.lt_size e) hDs))]
    exact Heap.get?_push_of_some _ (k1 b u e)
  refine sort_rest (A := X.A.in1.in1) (H := H) rfl ⟨I.kept (t' := s.toks) (k5 _ _), fun _ _ e => e, I.fpOk ?_ (I.hok.fresh ?_), I.fpOk (Nat.le_of_lt hDs) (I.hok.fresh (Nat.le_of_lt hDs)), ⟨0, Heap.get?_push_size _ rfl⟩, gD3 _ _, ?_, ⟨[], .nil, trivial⟩⟩ r hk hz nd fun xs' s' H1 a b c d e => ⟨.none, rfl, ?_⟩
  · rw [size_push', Heap.size_update, size_push']; omega
  · rw [size_push', Heap.size_update, size_push']; omega
  · rw [size_push', Heap.size_update, size_push', hD]; exact Nat.ne_of_lt (Nat.lt_succ_of_lt (Nat.lt_succ_self D))
  · exact wpAny_pure ⟨.ref D, rfl, .ref D, H1, c, rfl, q xs' D H1 a b (I.hok.fresh (Nat.le_of_lt hDs)) d e⟩
end
section
variable {X : Cx} {a : Expr} {x : Str} {p pos : Pos} {kpos : Pos} {ke : Expr} {t : TA} {tk : TE} {kf : V → RK}
def rSortK (X : Cx) : List V → V → Hp → VK → Prop := fun vs f H Q => ∃ pl xs kf fa, vs = [.ref pl] ∧ f = .ref fa ∧ SqL X.K H pl xs ∧ xs.length < 100000 ∧ (xs.map kf).Nodup ∧ (∀ y ∈ xs, KRun X X.A.in1.in1 (.ref fa) H kf y) ∧
  ∀ xs' l H1, xs'.Perm xs → RisesK kf xs' → H l = none → Same H H1 → H1 l = some (.lst xs') → Q (.ref l) H1
def tSortK (X : Cx) (t : TA) (tk : TE) : TE := fun σ H Q => t σ H fun vs H1 => tk σ H1 fun f H2 => rSortK X vs f H2 Q
theorem pe_sortK (hm : X.mg "sorted" = none) (ha : PA X [a] t) (hk : PE X ke tk) (hg : Gl X "sorted" := by rfl) (h1 : isStar a = false := by rfl) : PE X (.Call (.Name "sorted" p) [a] [⟨some "key", ke, kpos⟩] pos) (tSortK X t tk) := by
  intro pins s σ H Q I h
  refine wpAny_Call_Name_kw (ld_blt I hg hm boot_sorted ?_ (by decide) (by decide))
  refine callWith_builtin_kwB (by rw [star_cons h1]; rfl) rfl ?_
  rw [star_cons h1]
  have hs : wpAny (model X.prog X.w) X.A (spliced (backTo pos ((false, eval a X.env) :: starEach [] X.env))) (AP X pins σ fun vs H1 => tk σ H1 fun f H2 => rSortK X vs f H2 Q) X.xe s := by
    rw [← star_cons h1]
    exact ha pos pins s σ H _ I h
  refine evalArgs_kwB rfl (thn hs fun us s1 ⟨vs, H1, I1, r1, q1⟩ => ?_)
  refine thn ((pk_cons (nm := some "key") (kpos := kpos) hk pk_nil) pos pins s1 σ H1 (fun zs H2 => match zs with | [f] => rSortK X vs f H2 Q | _ => False) I1 q1) fun ws s2 ⟨zs, H2, I2, rz, q2⟩ => ?_
  match zs, rz, q2 with
  | [f], rz, q2 =>
    obtain ⟨u, rfl, ru⟩ := vals1 rz
    obtain ⟨pl, xs, kf, fa, rfl, rfl, hl, hz, nd, hk, q⟩ := q2
    obtain ⟨u1, rfl, ru1⟩ := vals1 r1
    obtain rfl : u = Value.ref fa := ru
    obtain rfl : u1 = Value.ref pl := ru1
    obtain ⟨its, r', pp, _⟩ := I2.list hl
    exact sorted_go I2 r' pp.isList hk hz nd (ksk_s1 _ _) (fun x => ksk_l1 _ _) (fun x => ksk_t1 _ _) q
theorem b_sortK (hm : X.mg "sorted" = none) (ha : BA X [a] t) (hk : BE X ke tk) (hg : Gl X "sorted" := by rfl) (h1 : isStar a = false := by rfl) : BE X (.Call (.Name "sorted" p) [a] [⟨some "key", ke, kpos⟩] pos) (tSortK X t tk) := ⟨pe_sortK hm ha.h hk.h hg h1⟩
theorem krun_fn {A : Around} {H : Hp} {k : Nat} {f : Addr} {fd : FuncData} {ps : List Str} {sp : Sp} {nm : Str} {sf : Stmt} (N : Fn X.K X.mg nm sf ps f fd) (G : FnOk X.prog X.w X.K X.mg X.base CX0 k f fd ps sp) (hr : Room k A) {y : V}
    (hk : ∀ H1, Same H H1 → ∀ R : VK, (∀ a H2, Same H1 H2 → H2 a = some (.tup [.str (kf y).1, .int (kf y).2]) → R (.ref a) H2) → sp [y] H1 R E0) : KRun X A (.ref f) H kf y := by
  intro s Hi u e0 kin sm ru
  have hsp := hk Hi sm (fun v H2 => ∃ a, v = .ref a ∧ Same Hi H2 ∧ H2 a = some (.tup [.str (kf y).1, .int (kf y).2])) fun a H2 s2 h2 => ⟨a, rfl, s2, h2⟩
  have rv : Vals [y] [u] := .cons ru .nil
  have hl : ([u] ++ []).length = ps.length := by
    have := G.len _ _ _ _ hsp
    simpa using this
  refine wpAny_call (codeAny_mono (G.run A X.stack s Hi ⟨[u], []⟩ [u] [y] _ E0 hr e0 (N.bd s [u] kin hl) rv hsp) fun r s' hq => ?_)
  cases r with
  | error e => exact hq.elim
  | ok fl =>
    cases fl with
    | ret v => exact hq
    | next => exact False.elim hq
    | brk => exact False.elim hq
    | cont => exact False.elim hq
end
end L2
namespace L2
open PySem PySem.Spec PyProof.Rows
section
variable {prog : Program} {w : World} {A : Around} {R : Result → Shared → Prop} {it : Addr} {ft wt : List Addr} {m : Nat} {Pv : Nat → Value → Prop} {Sv : Nat → Heap → Prop} {kw : List (Str × Value)}
theorem best_loop (W : Walks prog w A.in1 it ft wt m Pv Sv) (gt : Nat → Nat → Bool) (hg : CmpOf prog w A.in1 .Gt Pv gt) (B : Addr) (hB : B ∉ ft) :
    ∀ (d j : Nat) (s : Shared) (b0 : Value) (c : Nat), m - (j + 1) = d → j + 1 ≤ m → Sv (j + 1) s.heap → Pv (argBest gt j) b0 →
    s.heap.get? B = some { cls := .type "list", dict := none, data := .seq #[b0, b0] c, slots := #[] } →
    (∀ v g k, Pv (argBest gt (m - 1)) v → (∀ b o, b ∉ wt → b ≠ B → s.heap.get? b = some o → g.get? b = some o) → R (.ok (.ret v)) { s with heap := g, toks := k }) →
    codeAny (model prog w) A (.builtin "max.loop" ⟨[.ref it, .none, .ref B], kw⟩) R s := by
  have hBw : B ∉ wt := fun h => hB (W.sub _ h)
  have nm : (toString "max" ++ toString ".loop" : String) = "max.loop" := by decide
  intro d
  induction d with
  | zero =>
    intro j s b0 c hd hj st hP hO hR
    have hin : j + 1 = m := by omega
    refine codeAny_builtin F.entry_max_loop ?_
    rw [Around.under_plainId F.plain_max_loop _]
    show wpAny _ A.in1 (seqItems? (.ref B) >>= _) _ _ s
    refine wpAny_bind (wpAny_seqItems hO rfl ?_)
    show wpAny _ A.in1 (tryCatch (pyNext (.ref it)) _ >>= _) _ _ s
    refine wpAny_bind (wpAny_tryCatch (W.done s _ _ (hin ▸ st) fun g k kp => ?_))
    have hO' := kp B _ hBw hO
    show wpAny _ A.in1 (updateSeq B (fun _ => #[]) >>= _) _ _ _
    refine wpAny_bind ?_
    refine wpAny_updateSeq hO' rfl (wpAny_bind (wpAny_letGo (wpAny_pure ?_)))
    refine hR b0 _ k (by rw [← hin]; exact hP) fun b o hw hb e => (Heap.get?_update_other _ _ (Ne.symm hb)).trans (kp b o hw e)
  | succ d ih =>
    intro j s b0 c hd hj st hP hO hR
    have lt : j + 1 < m := by omega
    refine codeAny_builtin F.entry_max_loop ?_
    rw [Around.under_plainId F.plain_max_loop _]
    show wpAny _ A.in1 (seqItems? (.ref B) >>= _) _ _ s
    refine wpAny_bind (wpAny_seqItems hO rfl ?_)
    show wpAny _ A.in1 (tryCatch (pyNext (.ref it)) _ >>= _) _ _ s
    refine wpAny_bind (wpAny_tryCatch (W.item (j + 1) s _ _ lt st fun v g k hv st' kp => ?_))
    have hO' := kp B _ hBw hO
    show wpAny _ A.in1 (tryCatch (holding [v, v] (richCompare .Gt v b0 >>= _)) _ >>= _) _ _ _
    refine wpAny_bind (wpAny_tryCatch (wpAny_holding (wpAny_bind (hg (j + 1) (argBest gt j) v b0 _ _ _ hv hP ?_))))
    refine wpAny_bind (wpAny_holding (wpAny_truthy_bool ?_))
    refine wpAny_bind (wpAny_letGo (wpAny_pure ?_))
    cases y : gt (j + 1) (argBest gt j) with
    | true =>
      simp only [if_true]
      refine wpAny_bind ?_
      refine wpAny_updateSeq hO' rfl (wpAny_bind (wpAny_letGo ?_))
      rw [nm]
      refine wpAny_pure ⟨plainId_quiet F.plain_max_loop _, ih (j + 1) _ v _ (by omega) lt (W.frame _ _ _ st' fun b hf o e => ?_) (by simp only [argBest, y, if_true]; exact hv) (Heap.get?_update_self _ hO' rfl) fun v' g' k' hv' kp' => ?_⟩
      · exact (Heap.get?_update_other _ _ (fun h : B = b => hB (by rw [h]; exact hf))).trans e
      · exact hR v' g' k' hv' fun b o hw hb e => kp' b o hw hb ((Heap.get?_update_other _ _ (Ne.symm hb)).trans (kp b o hw e))
    | false =>
      simp only [Bool.false_eq_true, if_false]
      refine wpAny_bind (wpAny_letGo ?_)
      rw [nm]
      refine wpAny_pure ⟨plainId_quiet F.plain_max_loop _, ih (j + 1) _ b0 c (by omega) lt st' (by simp only [argBest, y, Bool.false_eq_true, if_false]; exact hP) hO' fun v' g' k' hv' kp' => ?_⟩
      exact hR v' g' k' hv' fun b o hw hb e => kp' b o hw hb (kp b o hw e)
theorem best_first (W : Walks prog w A.in1 it ft wt m Pv Sv) (gt : Nat → Nat → Bool) (hg : CmpOf prog w A.in1 .Gt Pv gt) (B : Addr) (hB : B ∉ ft) (hm : 0 < m) {s : Shared} {c : Nat} (st : Sv 0 s.heap)
    (hO : s.heap.get? B = some { cls := .type "list", dict := none, data := .seq #[] c, slots := #[] })
    (hR : ∀ v g k, Pv (argBest gt (m - 1)) v → (∀ b o, b ∉ wt → b ≠ B → s.heap.get? b = some o → g.get? b = some o) → R (.ok (.ret v)) { s with heap := g, toks := k }) :
    codeAny (model prog w) A (.builtin "max.loop" ⟨[.ref it, .none, .ref B], kw⟩) R s := by
  have hBw : B ∉ wt := fun h => hB (W.sub _ h)
  have nm : (toString "max" ++ toString ".loop" : String) = "max.loop" := by decide
  refine codeAny_builtin F.entry_max_loop ?_
  rw [Around.under_plainId F.plain_max_loop _]
  show wpAny _ A.in1 (seqItems? (.ref B) >>= _) _ _ s
  refine wpAny_bind (wpAny_seqItems hO rfl ?_)
  show wpAny _ A.in1 (tryCatch (pyNext (.ref it)) _ >>= _) _ _ s
  refine wpAny_bind (wpAny_tryCatch (W.item 0 s _ _ hm st fun v g k hv st' kp => ?_))
  have hO' := kp B _ hBw hO
  show wpAny _ A.in1 (updateSeq B (fun _ => #[v, v]) >>= _) _ _ _
  refine wpAny_bind ?_
  refine wpAny_updateSeq hO' rfl ?_
  rw [nm]
  refine wpAny_pure ⟨plainId_quiet F.plain_max_loop _, best_loop W gt hg B hB _ 0 _ v _ rfl hm (W.frame _ _ _ st' fun b hf o e => ?_) hv (Heap.get?_update_self _ hO' rfl) fun v' g' k' hv' kp' => ?_⟩
  · exact (Heap.get?_update_other _ _ (fun h : B = b => hB (by rw [h]; exact hf))).trans e
  · exact hR v' g' k' hv' fun b o hw hb e => kp' b o hw hb ((Heap.get?_update_other _ _ (Ne.symm hb)).trans (kp b o hw e))
theorem best_none (W : Walks prog w A.in1 it ft wt 0 Pv Sv) (B : Addr) (hB : B ∉ ft) {s : Shared} {c : Nat} {nk : Str} {dv : Value} (st : Sv 0 s.heap)
    (hO : s.heap.get? B = some { cls := .type "list", dict := none, data := .seq #[] c, slots := #[] })
    (hR : ∀ g k, (∀ b o, b ∉ wt → s.heap.get? b = some o → g.get? b = some o) → R (.ok (.ret dv)) { s with heap := g, toks := k }) :
    codeAny (model prog w) A (.builtin "max.loop" ⟨[.ref it, .none, .ref B], [(nk, dv)]⟩) R s := by
  refine codeAny_builtin F.entry_max_loop ?_
  rw [Around.under_plainId F.plain_max_loop _]
  show wpAny _ A.in1 (seqItems? (.ref B) >>= _) _ _ s
  refine wpAny_bind (wpAny_seqItems hO rfl ?_)
  show wpAny _ A.in1 (tryCatch (pyNext (.ref it)) _ >>= _) _ _ s
  refine wpAny_bind (wpAny_tryCatch (W.done s _ _ st fun g k kp => ?_))
  show wpAny _ A.in1 (rule _ >>= _) _ _ _
  refine wpAny_bind (wpAny_rule ?_)
  exact wpAny_pure (hR g k kp)
end
section
variable {prog : Program} {w : World} {A : Around} {E : Value → Shared → Prop} {s : Shared}
theorem call_named {id : String} {b : Builtin} {args : List Value} {kw : List (Str × Value)} {Q : Value → Shared → Prop} (hk : builtinKind id = none) (hp : plainId id = true) (hb : entryFor table id = some b) (ha : argsOk id ⟨args, kw⟩)
    (hc : wpAny (model prog w) A.in1 (b ⟨args, kw⟩) (fun fin s' => match fin with
      | .done f => (match (Except.ok f : Result) with | .ok (.ret v) => Q v s' | .ok _ => False | .error e => E e s')
      | .again c' => c'.quiet = true ∧ codeAny (model prog w) A c' (fun r s' => match r with | .ok (.ret v) => Q v s' | .ok _ => False | .error e => E e s') s') E s) :
    wpAny (model prog w) A (call (.builtin id) args kw) Q E s := by
  refine wpAny_call (codeAny_call_builtin hp hb ?_)
  simp only [checkBuiltinCall, hk]
  cases hs : Manifest.signature? id with
  | none => exact wpAny_pure hc
  | some sg =>
    simp only [argsOk, hs] at ha
    have h2 : Bind.checkArgs id sg ⟨args, kw⟩ = pure () := ha
    show wpAny _ A.in1 (Bind.checkArgs id sg ⟨args, kw⟩) _ _ s
    rw [h2]
    exact wpAny_pure hc
theorem args_maxD (a d : Value) : argsOk "max" ⟨[a], [(Str.ofString "default", d)]⟩ := by unfold argsOk; kernel_rfl
theorem max_D {l : Addr} {xs : Array (Int × Tok)} {d : Value} {Q : Value → Shared → Prop} (hh : A.handled = none) (hl : s.heap.IsList l (intItems xs))
    (h1 : ∀ v g k, 0 < xs.size → (intItems xs)[argBest (fun i j => decide (numAt xs i > numAt xs j)) (xs.size - 1)]? = some v → (∀ b o, s.heap.get? b = some o → g.get? b = some o) → Q v { s with heap := g, toks := k })
    (h0 : ∀ g k, xs.size = 0 → (∀ b o, s.heap.get? b = some o → g.get? b = some o) → Q d { s with heap := g, toks := k }) :
    wpAny (model prog w) A (call (.builtin "max") [.ref l] [(Str.ofString "default", d)]) Q E s := by
  have nm : (toString "max" ++ toString ".loop" : String) = "max.loop" := by decide
  refine call_named F.kind_max F.plain_max F.entry_max (args_maxD _ _) ?_
  show wpAny _ A.in1 (Builtin.Builtins.bindParams "max" ["key", "default"] 0 ⟨[], [(Str.ofString "default", d)]⟩ >>= _) _ _ s
  refine wpAny_bind (wpAny_of_eq (show Builtin.Builtins.bindParams "max" ["key", "default"] 0 ⟨[], [(Str.ofString "default", d)]⟩ = pure [none, some d] from by kernel_rfl) ?_)
  refine wpAny_bind (wpAny_pure ?_)
  refine wpAny_bind (iter_intList hl fun s₂ e st hf hlI => ?_)
  refine wpAny_bind (wpAny_newObj_type ?_)
  have hB : s₂.heap.objs.size ∉ [s.heap.objs.size, l] := fun hm => Nat.lt_irrefl _ (hf _ hm)
  have W := Walks.list (prog := prog) (w := w) (A := A.in1) hh s.heap.objs.size l hlI (intItems xs)
  rw [nm]
  have kept : ∀ {g : Heap}, (∀ b o, b ∉ [s.heap.objs.size] → (s₂.heap.push { cls := .type "list", data := .seq #[] }).get? b = some o → g.get? b = some o) → ∀ b o, s.heap.get? b = some o → g.get? b = some o := fun {g} kp b o y => by
    refine kp b o (fun hm => ?_) (Heap.get?_push_of_some _ ?_)
    · exact absurd (List.mem_singleton.mp hm ▸ Heap.lt_size y) (Nat.lt_irrefl _)
    · subst e; exact Heap.get?_push_of_some _ y
  have st' := W.frame _ _ (s₂.heap.push { cls := .type "list", data := .seq #[] }) st (fun b _ o e => Heap.get?_push_of_some _ e)
  by_cases hz : xs.size = 0
  · have hi : (intItems xs).size = 0 := by simpa [intItems] using hz
    rw [hi] at W
    refine wpAny_pure ⟨plainId_quiet F.plain_max_loop _, best_none W s₂.heap.objs.size hB (c := 0) st' (Heap.get?_push_size _ rfl) fun g k kp => ?_⟩
    subst e
    exact h0 g k hz (kept kp)
  · refine wpAny_pure ⟨plainId_quiet F.plain_max_loop _, best_first W _ (CmpOf.ints_gt (numAt xs) (fun _ _ => intItems_at)) s₂.heap.objs.size hB (by simpa [intItems] using Nat.pos_of_ne_zero hz) (c := 0) st' (Heap.get?_push_size _ rfl) fun v g k hv kp => ?_⟩
    subst e
    refine h1 v g k (Nat.pos_of_ne_zero hz) (by simpa [intItems] using hv) fun b o y => ?_
    refine kp b o (fun hm => ?_) (fun z => ?_) (Heap.get?_push_of_some _ (Heap.get?_push_of_some _ y))
    · exact absurd (List.mem_singleton.mp hm ▸ Heap.lt_size y) (Nat.lt_irrefl _)
    · have := Heap.lt_size y
      rw [z] at this
      change (s.heap.push _).objs.size < _ at this
      rw [Heap.size_push] at this
      omega
end
section
variable {X : Cx} {K : PySem.W.Frag} {σ : St} {H : Hp} {Q : VK} {a : Expr} {p pos kpos : Pos} {ke : Expr} {t : TA} {tk : TE}
def rMaxD (K : PySem.W.Frag) : List V → V → Hp → VK → Prop := fun vs d H Q => ∃ (l : Addr) (ns : List Int), vs = [.ref l] ∧ SqL K H l (ns.map V.int) ∧ (ns = [] → Q d H) ∧ ∀ M, M ∈ ns → (∀ a ∈ ns, a ≤ M) → Q (.int M) H
def tMaxD (K : PySem.W.Frag) (t : TA) (tk : TE) : TE := fun σ H Q => t σ H fun vs H1 => tk σ H1 fun d H2 => rMaxD K vs d H2 Q
theorem pe_maxD (hm : X.mg "max" = none) (ha : PA X [a] t) (hk : PE X ke tk) (hg : Gl X "max" := by rfl) (h1 : isStar a = false := by rfl) (hc : X.calm = true := by rfl) : PE X (.Call (.Name "max" p) [a] [⟨some "default", ke, kpos⟩] pos) (tMaxD X.K t tk) := by
  intro pins s σ H Q I h
  refine wpAny_Call_Name_kw (ld_blt I hg hm boot_max ?_ (by decide) (by decide))
  refine callWith_builtin_kwB (by rw [star_cons h1]; rfl) rfl ?_
  rw [star_cons h1]
  have hs : wpAny (model X.prog X.w) X.A (spliced (backTo pos ((false, eval a X.env) :: starEach [] X.env))) (AP X pins σ fun vs H1 => tk σ H1 fun d H2 => rMaxD X.K vs d H2 Q) X.xe s := by
    rw [← star_cons h1]
    exact ha pos pins s σ H _ I h
  refine evalArgs_kwB rfl (thn hs fun us s1 ⟨vs, H1, I1, r1, q1⟩ => ?_)
  refine thn ((pk_cons (nm := some "default") (kpos := kpos) hk pk_nil) pos pins s1 σ H1 (fun zs H2 => match zs with | [d] => rMaxD X.K vs d H2 Q | _ => False) I1 q1) fun ws s2 ⟨zs, H2, I2, rz, q2⟩ => ?_
  match zs, rz, q2 with
  | [d], rz, q2 =>
    obtain ⟨u, rfl, ru⟩ := vals1 rz
    obtain ⟨l, ns, rfl, hl, q0, q⟩ := q2
    obtain ⟨u1, rfl, ru1⟩ := vals1 r1
    obtain rfl : u1 = Value.ref l := ru1
    obtain ⟨its, r', pl, _⟩ := I2.list hl
    have hi := L2.intsAre_of r'
    obtain ⟨xs, e⟩ := hi.allInts.items
    have hns : ns = xs.toList.map (·.1) := by rw [← hi.numsOf, ← nums_intItems, ← e]
    have il := pl.isList
    rw [e] at il
    show wpAny _ _ (call (.builtin "max") [.ref l] [(Str.ofString "default", u)]) _ _ _
    refine max_D (I2.ok.hd hc) il (fun v g k hz hv kp => ?_) (fun g k hz kp => ?_)
    · obtain ⟨t, rfl⟩ := intItems_at hv
      obtain ⟨a1, a2⟩ := argBest_gt (numAt xs) (xs.size - 1)
      refine ⟨.int (numAt xs (argBest (fun i j => decide (numAt xs i > numAt xs j)) (xs.size - 1))), H2, I2.kept (t' := k) kp, ⟨t, rfl⟩, q _ ?_ fun a ha => ?_⟩
      · rw [hns, numAt_eq]; exact getD_mem (by rw [List.length_map, Array.length_toList]; omega)
      · rw [hns] at ha
        obtain ⟨j, hj, rfl⟩ := mem_getD ha
        rw [List.length_map, Array.length_toList] at hj
        rw [← numAt_eq]; exact a2 j (by omega)
    · refine ⟨d, H2, I2.kept (t' := k) kp, ru, q0 ?_⟩
      rw [hns]
      have : xs.toList.length = 0 := by rw [Array.length_toList]; exact hz
      rw [List.length_eq_zero_iff.mp this]
      rfl
theorem b_maxD (hm : X.mg "max" = none) (ha : BA X [a] t) (hk : BE X ke tk) (hg : Gl X "max" := by rfl) (h1 : isStar a = false := by rfl) (hc : X.calm = true := by rfl) : BE X (.Call (.Name "max" p) [a] [⟨some "default", ke, kpos⟩] pos) (tMaxD X.K t tk) := ⟨pe_maxD hm ha.h hk.h hg h1 hc⟩
instance md1 : RdS (tMaxD K t tk σ H Q) (t σ H fun vs H1 => tk σ H1 fun d H2 => rMaxD K vs d H2 Q) := ⟨id⟩
theorem rd_maxD {l : Addr} {d : V} (ns : List Int) (h1 : SqL K H l (ns.map V.int)) (q0 : ns = [] → Q d H) (q : ∀ M, M ∈ ns → (∀ a ∈ ns, a ≤ M) → Q (.int M) H) : rMaxD K [.ref l] d H Q := ⟨l, ns, rfl, h1, q0, q⟩
end
end L2
namespace L2
open PySem PySem.Spec PySem.W PyProof.Rows
def SameN (H H' : Hp) : Prop := ∀ b o, H b = some o → (∀ ps, o ≠ .tbl ps) → H' b = some o
theorem SameN.of {H H' : Hp} (s : Same H H') : SameN H H' := fun b o e _ => s b o e
theorem SameN.refl {H : Hp} : SameN H H := fun _ _ e _ => e
theorem SameN.trans {H H1 H2 : Hp} (a : SameN H H1) (b : SameN H1 H2) : SameN H H2 := fun c o e n => b c o (a c o e n) n
def CodeO (qual : Str) (c' : Addr) (h : Heap) : Prop := h.CodeRec (.ref c') qual
section
variable {X : Cx} {params : Arguments} {body : Expr} {scope : Scope} {pos : Pos} {c P : Addr}
end
section
variable {P : Program} {w : World} {K : PySem.W.Frag} {mg : Str → Option Value} {base : Heap}
end
end L2
namespace L2
open PySem PySem.Spec PySem.W PyProof.Rows
section
variable {P : Program} {w : World} {K : PySem.W.Frag} {mg : Str → Option Value} {base : Heap}
end
section
variable {X : Cx} {kf : V → RK}
end
end L2
namespace L2
open PySem PySem.Spec PyProof.Rows
section
variable {X : Cx} {K : PySem.W.Frag} {σ : St} {H : Hp} {Q : VK} {e e' : Expr} {te te' : TE} {pos : Pos}
end
end L2
namespace L2
open PySem PySem.Spec PyProof.Rows
local macro_rules | `(term| type_of% $n:ident) => return Lean.mkIdent (Lean.mkPrivateNameCore `PySem.Builtin.Dict_items.Iterators (`PySem.Builtin ++ n.getId))
local macro_rules | `(tactic| delta $n:ident) => if Lean.isPrivateName n.getId then Lean.Macro.throwUnsupported else `(tactic| delta $(Lean.mkIdent (Lean.mkPrivateNameCore `PySem.Builtin.Dict_items.Iterators (`PySem.Builtin ++ n.getId))):ident)
section
variable {prog : Program} {w : World} {A : Around} {E : Value → Shared → Prop} {s : Shared} {it d : Addr} {i ep : Nat} {o : Obj} {es : Array DictEntry}
end
end L2
namespace L2
open PySem PySem.Spec PyProof.Rows
section
variable {X : Cx} {K : PySem.W.Frag} {σ : St} {H : Hp} {Q : VK} {e : Expr} {te : TE} {pos : Pos} {pins : List (Addr × Obj)} {s : Shared}
end
end L2
namespace L2
open PySem PySem.Spec PyProof.Rows
structure LcScope2 (scope : Scope) (x x2 : Str) (fv : List Str) (osc : Scope) : Prop where
  kind : scope.kind = .function
  nocell : ∀ y ∈ scope.names, y.2 ≠ .cell
  names : ∀ y ∈ scope.names, y.2 = .local → scope.names.lookup y.1 = some .local
  tgt : scope.names.lookup x = some .local
  tgt2 : scope.names.lookup x2 = some .local
  free : ∀ y ∈ scope.names, y.2 = .free → osc.names.lookup y.1 = some .cell ∨ osc.names.lookup y.1 = some .free
  fvs : ∀ y ∈ fv, scope.names.lookup y = some .free
  nd : (x :: x2 :: fv).Nodup
section
variable {X : Cx} {scope : Scope} {x x2 : Str} {fv : List Str} {ix : List Nat}
theorem LcScope2.cells (S : LcScope2 scope x x2 fv X.env.scope) (ok : X.Ok) : ∀ y ∈ scope.names, y.2 = .free → ∃ c, X.env.cells.lookup y.1 = some c := fun y hy hf => by
  rcases S.free y hy hf with e | e
  · exact ok.has y.1 (.inl e)
  · exact ok.has y.1 (.inr e)
end
end L2
namespace L2
open PySem PySem.Spec PySem.W PyProof.Rows
section
variable {Md : Model} {A : Around} {E : Value → Shared → Prop} {s : Shared} {name qual : Str} {params : Arguments} {body : Expr} {scope : Scope} {env : Env} {c P c' : Addr} {ps : Array Value} {pos : Pos} {firstLine : Nat} {mg : Str → Option Value} {Q : Value → Shared → Prop}
end
def TabOk (P : Addr) (pos : Pos) (qual : Str) (H : Hp) : Prop := ∃ ps, H P = some (.tbl ps) ∧ TriplesOk ps.toList ∧ (codeAmong pos ps.toList = none ∨ ∃ c', codeAmong pos ps.toList = some (.ref c') ∧ H c' = some (.ext (CodeO qual c')))
theorem TabOk.start {P : Addr} {pos : Pos} {qual : Str} {H : Hp} (h : H P = some (.tbl #[])) : TabOk P pos qual H := ⟨#[], h, trivial, .inl rfl⟩
theorem TabOk.same {P : Addr} {pos : Pos} {qual : Str} {H H' : Hp} (h : TabOk P pos qual H) (s : Same H H') : TabOk P pos qual H' := by
  obtain ⟨ps, h1, h2, h3⟩ := h
  exact ⟨ps, s _ _ h1, h2, h3.imp id fun ⟨c', a, b⟩ => ⟨c', a, s _ _ b⟩⟩
section
variable {X : Cx} {params : Arguments} {body : Expr} {scope : Scope} {pos : Pos} {c P : Addr}
end
end L2
namespace L2
open PySem PySem.Spec PyProof.Rows
section
variable {X : Cx} {K : PySem.W.Frag} {σ : St} {H : Hp} {Q : VK} {o i value : Expr} {td ty tv : TE} {pos pos' : Pos}
instance zz3 {D : Ends} : RdS (sDPut td ty tv D σ H) (tv σ H fun v H1 => td σ H1 fun x H2 => ty σ H2 fun y H3 => ∃ a H4, x = .ref a ∧ DPut H3 a y v H4 ∧ D.nx σ H4) := ⟨id⟩
instance zz4 : RdS (tDGet td ty σ H Q) (td σ H fun x H1 => ty σ H1 fun y H2 => ∃ a v, x = .ref a ∧ DGet H2 a y (some v) ∧ Q v H2) := ⟨id⟩
instance zz5 {t : TA} {tk : TE} : RdS (tSortK X t tk σ H Q) (t σ H fun vs H1 => tk σ H1 fun f H2 => rSortK X vs f H2 Q) := ⟨id⟩
end
end L2
namespace L2
open PySem PySem.Spec PyProof.Rows
section
variable {X : Cx} {K : PySem.W.Frag} {σ : St} {H : Hp} {Q : VK} {e : Expr} {te : TE} {pos : Pos} {pins : List (Addr × Obj)} {s : Shared}
theorem Inv.freezeK {a : Addr} {kvs : List (Key × V)} (I : Inv X pins σ H s) (e : H a = some (.dK kvs)) : ∃ o, s.heap.get? a = some o ∧ Inv X pins σ (upd H a (.frz o (.dK kvs))) s := by
  have ho := I.hok a _ e
  obtain ⟨_, _, xs, r, o, es, ep, h1, h2⟩ := id ho
  refine ⟨o, h1, ?_⟩
  have nt : ∀ b u, H b = some u → (∀ k, u ≠ .dK k) → b ≠ a := fun b u q n z => by rw [z, e] at q; cases q; exact n _ rfl
  have un : Un X.fs [] H (upd H a (.frz o (.dK kvs))) s.heap s.heap := by
    refine ⟨fun b o q _ _ _ => q, fun b o q _ _ _ => ⟨o.slots, q⟩, fun b o q n _ => ?_, fun b o q _ => ⟨o, q⟩, fun b xs q => ?_, fun b o u q => ?_, fun b ps q => ⟨#[], ?_⟩⟩
    · rw [upd_ne (fun z => by rw [z, e] at n; cases n)]; exact n
    · rw [upd_ne (nt b _ q (fun _ z => by cases z))]; exact q
    · rw [upd_ne (nt b _ q (fun _ z => by cases z))]; exact q
    · rw [upd_ne (nt b _ q (fun _ z => by cases z)), q]; simp
  have ht : ∀ b ys, H b = some (.tup ys) → upd H a (.frz o (.dK kvs)) b = some (.tup ys) := fun b ys q => by rw [upd_ne (nt b _ q (fun _ z => by cases z))]; exact q
  have hw : ∀ b x, H b = some (.own x) → upd H a (.frz o (.dK kvs)) b = some (.own x) := fun b x q => by rw [upd_ne (nt b _ q (fun _ z => by cases z))]; exact q
  refine I.un (t' := s.toks) un fun b u q => ?_
  by_cases z : b = a
  · subst z
    rw [upd_same] at q
    cases q
    exact ⟨h1, ho.stay (fun c v _ q => q) (fun c r => hw c _ r) fun c xs r => ht c _ r⟩
  · rw [upd_ne z] at q
    exact (I.hok b u q).stay (fun c v _ q => q) (fun c r => hw c _ r) fun c xs r => ht c _ r
end
end L2
namespace L2
open PySem PySem.Spec PyProof.Rows
def FlyT (h : Heap) (ea T : Addr) (cls : Value) (dc : Option Addr) : Prop := ∃ oe vs oT ts, h.get? ea = some oe ∧ oe.cls = cls ∧ oe.dict = dc ∧ oe.data = .fields vs ∧ vs[1]? = some (.ref T) ∧ T ≠ ea ∧ h.get? T = some oT ∧ oT.data = .fields ts ∧ ts[3]? = some .none ∧ vs[2]? = some .none
structure Flown (fs : List Addr) (ea T : Addr) (h h' : Heap) : Prop where
  keep : ∀ b o, h.get? b = some o → b ≠ ea → b ≠ T → b ∉ fs → h'.get? b = some o
  slot : ∀ b o, h.get? b = some o → b ∈ fs → ∃ sl, h'.get? b = some { o with slots := sl }
section
variable {M : Model} {A : Around} {E : Value → Shared → Prop} {s : Shared} {Q : Unit → Shared → Prop} {env : Env} {outer : List Env} {base : Heap} {L ea T : Addr}
end
end L2
namespace L2
open PySem PySem.Spec PyProof.Rows
theorem ObjOk.some {P : Program} {w : World} {H : Hp} {h : Heap} {a : Addr} {o : HO} (x : ObjOk P w H h a o) : ∃ ob, h.get? a = Option.some ob := by
  cases o with
  | lst xs => obtain ⟨_, _, _, _, e⟩ := x; exact ⟨_, e⟩
  | tup xs => obtain ⟨_, _, _, ob, e, _⟩ := x; exact ⟨_, e⟩
  | dK kvs => obtain ⟨_, _, _, _, o, _, _, e, _⟩ := x; exact ⟨_, e⟩
  | dT kvs => obtain ⟨_, _, _, _, o, _, _, e, _⟩ := x; exact ⟨_, e⟩
  | set S n => obtain ⟨o, _, _, _, e, _⟩ := x; exact ⟨_, e⟩
  | ins C dx fs => obtain ⟨_, _, _, e, _⟩ := x; exact ⟨_, e⟩
  | own y => obtain ⟨_, e⟩ := x; exact ⟨_, e⟩
  | xd fs => obtain ⟨_, ⟨_, _, _, e, _⟩, _⟩ := x; exact ⟨_, e⟩
  | rng lo hi => obtain ⟨_, _, _, e⟩ := x; exact ⟨_, e⟩
  | frz ob u => obtain ⟨e, _⟩ := x; exact ⟨_, e⟩
  | tbl ps => exact ⟨_, (show h.get? a = Option.some _ from x)⟩
  | met f y => exact ⟨_, (show h.get? a = Option.some _ from x)⟩
  | ext φ => obtain ⟨_, ⟨_, e⟩, _⟩ := x; exact ⟨_, e⟩
theorem HOk.none_of {P : Program} {w : World} {H : Hp} {h : Heap} {a : Addr} (x : HOk P w H h) (e : h.get? a = none) : H a = none := by
  cases q : H a with
  | none => rfl
  | some u =>
    obtain ⟨ob, e'⟩ := (x a u q).some
    rw [e] at e'
    cases e'
section
variable {P : Program} {w : World} {K : PySem.W.Frag} {mg : Str → Option Value} {base : Heap} {N : List Str} {q : Str} {sc : Scope} {f : Addr} {cd : Value} {A : Around} {outer : List Env} {s₀ : Shared} {H₀ : Hp} {E : XK}
theorem Inv.new0 {X : Cx} {pins : List (Addr × Obj)} {σ : St} {H : Hp} {s : Shared} (I : Inv X pins σ H s) (hx : X.ex = []) {b : Addr} (e : s.heap.get? b = none) : X.s₀.heap.get? b = none := by
  cases r : X.s₀.heap.get? b with
  | none => rfl
  | some o =>
    obtain ⟨o', e'⟩ := I.base.there b o r (by rw [hx]; simp)
    rw [e] at e'
    cases e'
end
end L2
namespace L2
open PySem PySem.Spec PyProof.Rows
abbrev veMro : List Value := [.type "ValueError", .type "Exception", .type "BaseException", .type "object"]
structure ExC (K : PySem.W.Frag) (mg : Str → Option Value) (x : Str) (C : Addr) : Prop where
  mgx : mg x = some (.ref C)
  ei : PySem.W.excIn K C veMro "ValueError.__new__" = true
section
variable {X : Cx} {x : Str} {C : Addr} {E : XK} {e : Expr} {es : List Expr} {t : TA} {np cpos pos : Pos} {K : PySem.W.Frag} {σ : St} {H : Hp} {D : Ends}
end
end L2
namespace L2
open PySem PySem.Spec PyProof.Rows
section
variable {P : Program} {w : World} {K : PySem.W.Frag} {mg : Str → Option Value} {base : Heap}
end
section
variable {X : Cx} {x : Str} {sf : Stmt} {ps : List Str} {f : Addr} {fd : FuncData} {k : Nat} {sp : Sp} {e : Expr} {es : List Expr} {t : TA} {p pos : Pos} {E : XK}
end
end L2
namespace L2
open PySem PySem.Spec PyProof.Rows
def Cx.held (X : Cx) (e : Value) (E : Value → Shared → Prop) : Cx := { X with A := X.A.mark (some e), calm := false, xe := E }
theorem Inv.held {X : Cx} {pins : List (Addr × Obj)} {σ : St} {H : Hp} {s : Shared} (I : Inv X pins σ H s) (e : Value) (E : Value → Shared → Prop) : Inv (X.held e E) pins σ H s :=
  ⟨⟨I.ok.mod, I.ok.kind, I.ok.glob, I.ok.blt, I.ok.above, I.ok.inj, I.ok.has, I.ok.cab, fun h => absurd (show false = true from h) (by decide), I.ok.frames, I.ok.stk, I.ok.exf, I.ok.bs, I.ok.bsz, I.ok.noex, I.ok.exfs, I.ok.funs, I.ok.frf⟩, I.os, I.bare, I.base, I.loc, I.cell, I.free, I.freeC, I.pin, I.hok, I.len⟩
end L2
namespace L2
open PySem PySem.Spec PyProof.Rows
def OfCls (h : Heap) (x C : Addr) : Prop := ∃ o, h.get? x = some o ∧ o.cls = .ref C
theorem OfCls.type {M : Model} {h : Heap} {x C : Addr} (I : OfCls h x C) : PySem.W.Looks M h (typeOf (.ref x)) (.ref C) := by
  obtain ⟨o, e, c⟩ := I
  exact c ▸ (PySem.W.Looks.ld e).andThen .now
end L2
namespace L2
open PySem PySem.Spec PyProof.Rows
section
variable {X : Cx} {pins : List (Addr × Obj)} {σ : St} {H : Hp} {s : Shared}
end
end L2
namespace L2
open PySem PySem.Spec PyProof.Rows
section
variable {X : Cx} {CX : CXT} {k : Nat} {f C : Addr} {fd : FuncData} {ps : List Str} {sp : Sp} {dvs : List V} {ds : List Value} {EX : St → XK} {x m : Str} {p pos apos : Pos} {e o : Expr} {es : List Expr} {ta : TE} {t : TA} {sf : Stmt}
end
section
variable {X : Cx} {pins pins' : List (Addr × Obj)} {EX : St → XK} {σ : St} {H : Hp} {s : Shared}
end
end L2
namespace L2
open PySem PySem.Spec PyProof.Rows
structure Apart (X : Cx) (pins : List (Addr × Obj)) (H : Hp) (b : Addr) : Prop where
  old : X.s₀.heap.get? b = none
  free : H b = none
  pin : ∀ p ∈ X.pn ++ pins, p.1 ≠ b
  loc : b ≠ X.env.locals
  cell : ∀ x c, X.env.cells.lookup x = some c → c ≠ b
section
variable {X : Cx} {pins : List (Addr × Obj)} {σ : St} {H : Hp} {s : Shared} {h' : Heap} {ea T T' : Addr} {t' : Nat}
theorem Inv.apart (I : Inv X pins σ H s) (hx : X.ex = []) (hea : s.heap.get? ea = none) : Apart X pins H ea := by
  have ne : ∀ b o c, s.heap.get? b = some o → s.heap.get? c = none → b ≠ c := fun b o c e n z => by rw [z, n] at e; cases e
  obtain ⟨m, ⟨o, es, ep, ho, _⟩, _⟩ := id I.loc
  refine ⟨I.new0 hx hea, I.hok.none_of hea, fun p hp => ne _ _ _ (I.pin p hp).1 hea, Ne.symm (ne _ _ _ ho hea), fun x c e => ?_⟩
  obtain ⟨v, oc, hoc, _⟩ := I.cell x c e
  exact ne _ _ _ hoc hea
theorem Apart.next (I : Inv X pins σ H s) (hx : X.ex = []) (a : Apart X pins H T) (h : T' = T ∨ s.heap.get? T' = none) : Apart X pins H T' := by
  rcases h with rfl | h
  · exact a
  · exact I.apart hx h
end
section
variable {X : Cx} {pins : List (Addr × Obj)} {σ : St} {H : Hp} {s : Shared} {ea : Addr} {oe : Obj}
end
end L2
namespace L2
open PySem PySem.Spec PyProof.Rows
section
variable {X : Cx} {ea C : Addr} {oe : Obj}
end
end L2
namespace L2
open PySem PySem.Spec PySem.Calls PySem.W PyProof.Rows Builtin Builtin.ObjectAttr Builtin.Getset_descriptor
section
variable {P : Program} {w : World} {A : Around} {E : Value → Shared → Prop} {s : Shared} {K : PySem.W.Frag} {x C : Addr}
structure ClsX (K : PySem.W.Frag) (C : Addr) : Prop where
  hg : plainGet K C "__class__" = true
  ha : findIn K (.ref C) "__class__" = some (some (.builtin "object.__class__"))
  hn : specialIn K (.builtin "object.__class__") "__get__" = some (some (.builtin "getset_descriptor.__get__"))
  ht : takesIn K (.builtin "object.__class__") = some true
  hm : mroIn K C (.type "object") = some true
  hk : kitCls K (.ref C) (.ref C) = some true
end
section
variable {X : Cx} {ea C : Addr} {oe : Obj}
end
end L2
namespace L2
open PySem PySem.Spec PyProof.Rows
abbrev TH := Addr → Addr → Option Addr → TS
structure BH (X : Cx) (hs : List ExceptHandler) (t : TH) : Prop where
  h : ∀ (pins : List (Addr × Obj)) (s : Shared) (σ : St) (H : Hp) (D : Ends) (C ea T : Addr) (dc : Option Addr), Inv X pins σ H s → FlyT s.heap ea T (.ref C) dc → Apart X pins H ea → Apart X pins H T → t C ea dc D σ H → wpAny (model X.prog X.w) X.A (handleBy (.ref ea) X.env hs) (SP X pins D) X.xe s
section
variable {X : Cx} {i : Nat} {x n : Str} {C' : Addr} {body suite : List Stmt} {b₀ : Stmt} {tb : (St → XK) → TS} {th tr : TH} {np hpos pos : Pos} {hs : List ExceptHandler} {h₀ : ExceptHandler}
end
end L2
namespace L2
open PySem PySem.Spec PySem.Calls PySem.W PyProof.Rows Builtin Builtin.ObjectAttr Builtin.Getset_descriptor
end L2
namespace L2
open PySem PySem.Spec PySem.Calls PySem.W PyProof.Rows Builtin Builtin.ObjectAttr Builtin.Getset_descriptor
section
variable {P : Program} {w : World} {A : Around} {E : Value → Shared → Prop} {s : Shared} {K : PySem.W.Frag} {x C : Addr}
structure ClsY (K : PySem.W.Frag) (C : Addr) : Prop where
  hg1 : findIn K (.ref C) "__getattribute__" = some (some (.builtin "BaseException.__getattribute__"))
  hg2 : findIn K (.ref C) "__getattr__" = some none
  hb : mroIn K C (.type "BaseException") = some true
  ha : findIn K (.ref C) "__class__" = some (some (.builtin "object.__class__"))
  hn : specialIn K (.builtin "object.__class__") "__get__" = some (some (.builtin "getset_descriptor.__get__"))
  ht : takesIn K (.builtin "object.__class__") = some true
  hm : mroIn K C (.type "object") = some true
  hk : kitCls K (.ref C) (.ref C) = some true
end
section
variable {X : Cx} {ea C : Addr} {oe : Obj}
end
end L2
namespace L2
open PySem PySem.Spec PyProof.Rows
section
variable {X : Cx} {ea C : Addr} {oe : Obj} {K : PySem.W.Frag}
end
section
variable {σ : St} {H : Hp} {D : Ends} {E : XK} {C : Addr} {Q : VK}
end
end L2
namespace L2
open PySem PySem.Spec PyProof.Rows
end L2
namespace PySem
open Sem (wp)
section
variable {prog : Program} {w : World} {A : Around} {E : Value → Shared → Prop} {h : Heap} {g : Array GenState} {d : Drawn} {t : Nat} {os : OsState}
variable {nm q : Str} {C N : Addr} {bs bm bmB : List Value} {hdct : Bool} {sn : List Str} {sub : List Value} {ab : Bool} {col : Option Bool} {dd : Option Addr} {k0 k1 k2 k3 k5 : Option Value} {B newId initId : String}
end
section
variable {M : Model} {A : Around} {E : Value → Shared → Prop} {env : Env}
variable {nm q : Str} {C N : Addr} {bs bm : List Value} {hdct : Bool} {sn : List Str} {sub : List Value} {ab : Bool} {col : Option Bool} {dd : Option Addr} {k0 k1 k2 k3 k5 : Option Value} {newId : String}
end
end PySem
namespace L2
open PySem PySem.Spec PySem.Calls PySem.W PyProof.Rows Builtin Builtin.ObjectAttr Builtin.Getset_descriptor
section
variable {P : Program} {w : World} {A : Around} {E : Value → Shared → Prop} {s : Shared} {K : PySem.W.Frag} {x C : Addr} {ox od : Obj} {name : Str} {v : Value}
end
end L2
namespace L2
open PySem PySem.Spec PySem.Calls PySem.W PyProof.Rows Builtin Builtin.ObjectAttr Builtin.Getset_descriptor
def excOver : List Value → Bool
  | .ref _ :: r => excOver r
  | l => l == veMro
section
variable {P : Program} {w : World} {A : Around} {E : Value → Shared → Prop} {s : Shared} {K : PySem.W.Frag} {x C : Addr} {ox : Obj} {name : Str} {v : Value}
end
end L2
namespace L2
open PySem PySem.Spec PyProof.Rows
def ExcO (C ea : Addr) (dc : Option Addr) (h : Heap) : Prop := ∃ t, h.get? ea = some { cls := .ref C, dict := dc, data := .fields #[.ref t, .none, .none, .none, .bool false, .none] }
theorem ExcO.ok {P : Program} {w : World} {H : Hp} {h : Heap} {C ea : Addr} {dc : Option Addr} (x : ExcO C ea dc h) : ObjOk P w H h ea (.ext (ExcO C ea dc)) :=
  ⟨x, let ⟨_, e⟩ := x; ⟨_, e⟩, fun _ _ y k => let ⟨t, e⟩ := y; ⟨t, k _ e⟩⟩
def excInI (K : PySem.W.Frag) (C : Addr) (bmB : List Value) (newId : String) (f : Addr) : Bool := match K.lookup C with
  | some ⟨.type "type", _, .cls cd, sl⟩ => (match cd.mro, sl.toList with
    | .ref C' :: bm, [_, _, _, _, some (.builtin n), _] => C' == C && n == newId && !cd.hasDel && PySem.W.tailIn K bmB bm && PySem.W.nsOkIn K cd.ns && PySem.W.nsIn K cd.ns "__init__" == some (some (.ref f)) && PySem.W.isFn K (.ref f)
    | _, _ => false)
  | _ => false
structure ExI (K : PySem.W.Frag) (mg : Str → Option Value) (x : Str) (C f : Addr) : Prop where
  mgx : mg x = some (.ref C)
  ei : excInI K C veMro "ValueError.__new__" f = true
section
variable {X : Cx} {x : Str} {C f : Addr} {fd : FuncData} {k : Nat} {ps : List Str} {sp : Sp} {E : XK} {e : Expr} {es : List Expr} {t : TA} {np cpos pos : Pos}
end
end L2
namespace L2
open PySem PySem.Spec PyProof.Rows
structure ExF (K : PySem.W.Frag) (C : Addr) (f : Str) : Prop where
  cd : ∃ cd, PySem.W.clsIn K C = some cd ∧ excOver cd.mro = true ∧ cd.hasDict = true
  hm : PySem.W.mroIn K C (.type "object") = some true
  hs : PySem.W.findIn K (.ref C) "__setattr__" = some (some (.builtin "object.__setattr__"))
  ha : PySem.W.findIn K (.ref C) f = some none
section
variable {X : Cx} {o value : Expr} {f : Str} {pos pos' : Pos} {ta tv : TE}
end
structure ExG (K : PySem.W.Frag) (C : Addr) (f : Str) : Prop where
  hg1 : PySem.W.findIn K (.ref C) "__getattribute__" = some (some (.builtin "BaseException.__getattribute__"))
  hg2 : PySem.W.findIn K (.ref C) "__getattr__" = some none
  hb : PySem.W.mroIn K C (.type "BaseException") = some true
  hd : PySem.W.hasDictIn K C = true
  ha : PySem.W.findIn K (.ref C) f = some none
section
variable {X : Cx} {e : Expr} {f : Str} {pos : Pos} {ta : TE} {ea C : Addr} {oe : Obj} {dc : Option Addr}
end
end L2
namespace L2
open PySem PySem.Spec PyProof.Rows
structure ExU (K : PySem.W.Frag) (mg : Str → Option Value) (x : Str) (B : Addr) : Prop where
  mgx : mg x = some (.ref B)
  rd : PySem.W.readsIn K B (.type "type") = true
  fc : PySem.W.findCls K (.ref B) (.type "type") "__init__" = some (.val (.builtin "ValueError.__init__"))
  ga : PySem.W.specialIn K (.ref B) "__getattribute__" = some (some (.builtin "type.__getattribute__"))
section
variable {X : Cx} {x : Str} {B : Addr} {e : Expr} {es : List Expr} {t : TA} {np apos cpos : Pos}
end
end L2
namespace L2
open PySem PySem.Spec PyProof.Rows
section
variable {K : PySem.W.Frag} {σ : St} {H : Hp} {D : Ends} {E : XK} {C ea : Addr} {dc : Option Addr} {Q : VK} {t : TA} {ta tv : TE} {f : Str} {sp : Sp}
end
end L2
namespace L2
open PySem PySem.Spec PyProof.Rows
section
variable {X : Cx} {CX : CXT} {k : Nat} {f C : Addr} {fd : FuncData} {ps : List Str} {sp : Sp} {dvs : List V} {ds : List Value} {E : XK} {EX : St → XK} {x m fl : Str} {p pos apos pos' : Pos} {e o value : Expr} {es : List Expr} {ta tv : TE} {t : TA} {pl : Sem Bool}
theorem be_fld (he : BE X e ta) (hb : attributeBase e fl X.env (eval e X.env) = eval e X.env := by rfl) : BE X (.Attribute e fl pos) (tFld X.K ta fl) := ⟨pe_fld he.h hb⟩
theorem bs_fld (ha : BE X o ta) (hv : BE X value tv) (hs : swapsWith value (some (.Attribute o fl pos')) pos.line X.env = pure false := by rfl) : BS X (.Assign [.Attribute o fl pos'] value pos) (sFld X.K ta tv fl) := ⟨ps_fld ha.h hv.h hs⟩
theorem b_m (c : Cls X.K C) (hm : Meth X.K C m f) (F : FnOk X.prog X.w X.K X.mg X.base CX k f fd ps sp) (hx : Passes CX X E) (hb : Binds X.K fd ps ds) (hd : Vals dvs ds) (hr : Room k X.A) (ho : BE X o ta) (ha : BA X (e :: es) t)
    (ht : eval (.Call (.Attribute o m apos) (e :: es) [] pos) X.env = (do
      let ov ← eval o X.env
      standAt apos.atName
      let (f, first) ← holding [ov] (getMethod ov m pl)
      callWith pos f first (backTo pos (starEach (e :: es) X.env)) (backToKw pos (keywordEach [] X.env))) := by rfl) (h1 : isStar e = false := by rfl) (h2 : noStar es = true := by rfl) :
    BE X (.Call (.Attribute o m apos) (e :: es) [] pos) (tMeth C m sp dvs E ta t) := ⟨pe_meth ho.h c hm F hr hb hd hx ha.h (star_cons h1) (star_any h2) ht⟩
theorem b_m0 (c : Cls X.K C) (hm : Meth X.K C m f) (F : FnOk X.prog X.w X.K X.mg X.base CX k f fd ps sp) (hx : Passes CX X E) (hb : Binds X.K fd ps ds) (hd : Vals dvs ds) (hr : Room k X.A) (ho : BE X o ta)
    (ht : eval (.Call (.Attribute o m apos) [] [] pos) X.env = (do
      let ov ← eval o X.env
      standAt apos.atName
      let (f, first) ← holding [ov] (getMethod ov m pl)
      callWith pos f first (backTo pos (starEach [] X.env)) (backToKw pos (keywordEach [] X.env))) := by rfl) :
    BE X (.Call (.Attribute o m apos) [] [] pos) (tMeth C m sp dvs E ta tNil) := ⟨pe_meth0 ho.h c hm F hr hb hd hx ht⟩
theorem b_mk0 (M : Mk X.K C f) (F : FnOk X.prog X.w X.K X.mg X.base CX k f fd ps sp) (hx : Passes CX X E) (hb : Binds X.K fd ps ds) (hd : Vals dvs ds) (hr : Room (k + 1) X.A) (hm : X.mg x = some (.ref C))
    (hg : Gl X x := by rfl) (hdb : (x == ("__debug__" : Str)) = false := by decide) : BE X (.Call (.Name x p) [] [] pos) (tMake C sp dvs E tNil) := ⟨pe_make0 M F hr hg hm hb hd hx hdb⟩
end
structure FunD (K : PySem.W.Frag) (x qual : Str) (st : Stmt) (dV : Value) (f : Addr) (fd : FuncData) : Prop where
  ex : ∃ oc od kV doc pm an cdv ct osl, fd = PySem.W.fnOf x qual (defArgs st) (defBody st) (defScope st) dV kV doc pm an cdv ct ∧ K.lookup f = some { cls := oc, dict := od, data := .func fd, slots := osl } ∧ PySem.W.codeIn K cdv qual = true
  kp : PySem.W.keepIn K (.ref f) = true
section
variable {P : Program} {w : World} {K : PySem.W.Frag} {mg : Str → Option Value} {base : Heap}
theorem FunD.okB {x qual : Str} {st : Stmt} {dV : Value} {f : Addr} {fd : FuncData} {N ps : List Str} {k : Nat} {sp : Sp} (F : FunD K x qual st dV f fd) (S : FnScope N ps (defScope st)) (len : ∀ vs H Q E, sp vs H Q E → vs.length = ps.length)
    (hbody : ∀ (cdv : Value) (A : Around) (outer : List Env) (s : Shared) (H : Hp) (vs : List V) (Q : VK) (E : XK), Room k (A.deeper (envOfC qual (defScope st) s.heap.objs.size f cdv)) → sp vs H Q E →
      ∃ t, BSs (cxOf CX0 P w K mg base N qual (defScope st) f cdv A outer s H E) (defBody st) t ∧ t { nx := fun _ H' => Q .non H', rt := Q } (start N vs) H) : FnOk P w K mg base CX0 (k + 1) f fd ps sp := by
  obtain ⟨oc, od, kV, doc, pm, an, cdv, ct, osl, rfl, lk, hcd⟩ := F.ex
  refine fn_of lk hcd S len fun A outer s H vs Q E hr hsp => ?_
  obtain ⟨t, h, q⟩ := hbody cdv A outer s H vs Q E hr hsp
  exact ⟨t, h.h, q⟩
theorem binds_len {us ds : List Value} {ps : List Str} {n : Nat} (h : (us ++ ds).length = ps.length) (hd : ds.length + n = ps.length) : us.length = n := by
  rw [List.length_append] at h
  omega
def HasB (K : PySem.W.Frag) (fd : FuncData) (ps : List Str) (dvs : List V) : Prop := ∃ ds, Vals dvs ds ∧ Binds K fd ps ds
end
section
variable {X : Cx} {K : PySem.W.Frag} {σ : St} {H : Hp} {Q : VK} {o e i f value : Expr} {td ty tx tv : TE} {pos pos' apos cpos : Pos}
theorem b_dnewK : BE X (.Dict [] [] pos) tDNewK := ⟨pe_dnewK⟩
theorem bs_dput (hu : X.A.units + 1 < cLine) (ho : BE X o td) (hi : BE X i ty) (hv : BE X value tv) (hs : swapsWith value (some (.Subscript o i pos')) pos.line X.env = pure false := by rfl) : BS X (.Assign [.Subscript o i pos'] value pos) (sDPut td ty tv) := ⟨ps_dput hu ho.h hi.h hv.h hs⟩
theorem valV_mem {κ : Type} [DecidableEq κ] {k : κ} {v : V} : ∀ {kvs : List (κ × V)}, (kvs.map (·.1)).Nodup → (k, v) ∈ kvs → valV kvs k = some v
  | q :: kvs, hn, hm => by
    rw [List.map_cons, List.nodup_cons] at hn
    rcases List.mem_cons.mp hm with e | e
    · subst e; exact valV_pos rfl
    · rw [valV_neg (fun z => hn.1 (by rw [z]; exact List.mem_map.mpr ⟨_, e, rfl⟩))]
      exact valV_mem hn.2 e
instance yc1 {ta : TE} {fl : Str} : RdS (tFld K ta fl σ H Q) (ta σ H fun x H1 => ∃ a C dx fs v, x = .ref a ∧ H1 a = some (.ins C dx fs) ∧ Cls K C ∧ NoAttr K C fl ∧ fs.lookup fl = some v ∧ Q v H1) := ⟨id⟩
instance yc2 {ta : TE} {fl : Str} {D : Ends} : RdS (sFld K ta tv fl D σ H) (tv σ H fun y H1 => ta σ H1 fun x H2 => ∃ a C dx fs, x = .ref a ∧ H2 a = some (.ins C dx fs) ∧ Cls K C ∧ NoAttr K C fl ∧ fs.length < 1000 ∧ D.nx σ (upd H2 a (.ins C dx (putF fl y fs)))) := ⟨id⟩
instance yc3 {C : Addr} {m : Str} {sp : Sp} {dvs : List V} {E : XK} {ta : TE} {t : TA} : RdS (tMeth C m sp dvs E ta t σ H Q) (ta σ H fun x H1 => ∃ a dx fs, x = .ref a ∧ H1 a = some (.ins C dx fs) ∧ fs.lookup m = none ∧ t σ H1 fun vs H2 => sp (x :: (vs ++ dvs)) H2 Q E) := ⟨id⟩
instance yc5 {C : Addr} {sp : Sp} {dvs : List V} {E : XK} {t : TA} : RdS (tMake C sp dvs E t σ H Q) (t σ H fun vs H1 => ∀ x dx, H1 x = none → H1 dx = none → dx ≠ x → sp (.ref x :: (vs ++ dvs)) (upd (upd H1 dx (.own x)) x (.ins C dx [])) (fun v H2 => v = .non ∧ Q (.ref x) H2) E) := ⟨id⟩
instance yc6 : RdS (tDNewK σ H Q) (∀ p, H p = none → Q (.ref p) (upd H p (.dK []))) := ⟨id⟩
instance yc7 {D : Ends} : RdS (sDPut td ty tv D σ H) (tv σ H fun v H1 => td σ H1 fun x H2 => ty σ H2 fun y H3 => ∃ a H4, x = .ref a ∧ DPut H3 a y v H4 ∧ D.nx σ H4) := ⟨id⟩
end
section
variable {X : Cx} {K : PySem.W.Frag} {σ : St} {H : Hp} {Q : VK} {o e : Expr} {es : List Expr} {to : TE} {t : TA} {apos cpos : Pos}
end
end L2
namespace L2
open PySem PySem.Spec PyProof.Rows
section
variable {X : Cx} {K : PySem.W.Frag} {σ : St} {H : Hp} {Q : VK}
theorem vals_of : ∀ {xs : List V} {us : List Value}, xs.length = us.length → (∀ (i : Nat) v u, xs[i]? = some v → us[i]? = some u → RelV v u) → Vals xs us
  | [], [], _, _ => .nil
  | x :: xs, u :: us, hl, h => .cons (h 0 x u rfl rfl) (vals_of (Nat.succ.inj hl) fun i v u' hv hu => h (i + 1) v u' hv hu)
end
end L2
namespace L2
open PySem PySem.Spec PyProof.Rows
section
variable {X : Cx} {K : PySem.W.Frag} {σ : St} {H : Hp} {Q : VK} {o i : Expr} {td ty : TE} {pos : Pos}
theorem b_dget (hu : X.A.units + 1 < cLine) (ho : BE X o td) (hi : BE X i ty) (hs : NoSl i) : BE X (.Subscript o i pos) (tDGet td ty) := ⟨pe_dget hu ho.h hi.h hs⟩
def rEqE : R2 := fun x y H Q => ∃ a b kvs, x = .ref a ∧ y = .ref b ∧ H a = some (.dK kvs) ∧ H b = some (.dK []) ∧ Q (.bl kvs.isEmpty) H
theorem rd_eqE {a b : Addr} {kvs : List (Key × V)} (h1 : H a = some (.dK kvs)) (h2 : H b = some (.dK [])) (h : Q (.bl kvs.isEmpty) H) : rEqE (.ref a) (.ref b) H Q := ⟨a, b, kvs, rfl, rfl, h1, h2, h⟩
def rNotInK : R2 := fun x y H Q => ∃ z a kvs, x = .str z ∧ y = .ref a ∧ H a = some (.dK kvs) ∧ Q (.bl (!(valV kvs (.inr z)).isSome)) H
theorem op_notinK (hu : X.A.units + 100 < cLine) : OpR X (compareOp .NotIn) rNotInK := by
  intro pins s σ H x y v u Q I rx ry h
  obtain ⟨z, a, kvs, rfl, rfl, ha, q⟩ := h
  cases (show u = Value.ref a from ry)
  exact d_notIn (y := kV (.inr z)) (by omega) I (DGet.k ha) rx fun s' I' => ⟨.bl _, H, I', rfl, q⟩
theorem rd_notinK {z : Str} {a : Addr} {kvs : List (Key × V)} (h1 : H a = some (.dK kvs)) (h : Q (.bl (!(valV kvs (.inr z)).isSome)) H) : rNotInK (.str z) (.ref a) H Q := ⟨z, a, kvs, rfl, rfl, h1, h⟩
instance yf1 : RdS (tDGet td ty σ H Q) (td σ H fun x H1 => ty σ H1 fun y H2 => ∃ a v, x = .ref a ∧ DGet H2 a y (some v) ∧ Q v H2) := ⟨id⟩
end
end L2
namespace L2
open PySem PySem.Spec PyProof.Rows
section
variable {X : Cx} {K : PySem.W.Frag} {σ : St} {H : Hp} {Q : VK} {o : Expr} {to : TE} {apos cpos : Pos}
def ViewO (r d : Addr) (h : Heap) : Prop := h.IsValuesView r d
theorem ViewO.ok {P : Program} {w : World} {h : Heap} {r d : Addr} (x : ViewO r d h) : ObjOk P w H h r (.ext (ViewO r d)) :=
  ⟨x, let ⟨ob, e, _⟩ := x; ⟨ob, e⟩, fun _ _ y k => let ⟨ob, e, c, dd⟩ := y; ⟨ob, k _ e, c, dd⟩⟩
def rValsD : V → List V → Hp → VK → Prop := fun x vs H Q => ∃ a kvs, x = .ref a ∧ vs = [] ∧ H a = some (.dK kvs) ∧ ∀ r H1, H r = none → Same H H1 → H1 r = some (.ext (ViewO r a)) → Q (.ref r) H1
theorem mt_values : MtM X "dict.values" rValsD := by
  intro pins s σ H x vs v us Q I rx rv h
  obtain ⟨a, kvs, rfl, rfl, ha, q⟩ := h
  cases (show v = Value.ref a from rx)
  have hus := rv.zero
  subst hus
  obtain ⟨_, ea, v1, r1, d1⟩ := dk_of I.hok ha
  refine call_meetsIn F.slot_dict_values d1.typeIs F.entry_dict_values (F.args_dict_values_1 _) (meets_dict_values (mixKind X.prog X.w) a ea) ⟨⟨v1, d1⟩, ?_⟩
  have hn : H s.heap.objs.size = none := I.hok.fresh (Nat.le_refl _)
  exact ⟨.ref s.heap.objs.size, _, I.laid (a := s.heap.objs.size) (o := .ext (ViewO s.heap.objs.size a)) (t' := s.toks) (fun b u e => Heap.get?_push_of_some _ e) (Nat.le_refl _) (ViewO.ok ⟨_, Heap.get?_push_size _ rfl, rfl, rfl⟩), rfl, q _ _ hn (same_new hn) upd_same⟩
theorem bm_values (ho : BE X o to) (hbase : attributeBase o "values" X.env (eval o X.env) = eval o X.env := by rfl) (hline : (apos.endLine == cpos.line) = true := by rfl) :
    BE X (.Call (.Attribute o "values" apos) [] [] cpos) (tBM0 X.K "dict" rValsD to) :=
  ⟨pe_bm0 F.plainAttrs_dict F.slot_dict_values F.type_dict_values mt_values ho.h hbase hline⟩
theorem rd_bmD {p : Addr} {kvs : List (Key × V)} {P : Prop} (e : H p = some (.dK kvs)) (h : P) : tyV K "dict" (.ref p) H ∧ P := ⟨.inr (.inr (.inl ⟨rfl, .inl ⟨kvs, e⟩⟩)), h⟩
theorem rd_values {a : Addr} {kvs : List (Key × V)} (h1 : H a = some (.dK kvs)) (q : ∀ r H1, H r = none → Same H H1 → H1 r = some (.ext (ViewO r a)) → Q (.ref r) H1) : rValsD (.ref a) [] H Q := ⟨a, kvs, rfl, rfl, h1, q⟩
def rListV : List V → Hp → VK → Prop := fun xs H Q => ∃ (r a : Addr) (kvs : List (Key × V)), xs = [.ref r] ∧ H r = some (.ext (ViewO r a)) ∧ H a = some (.dK kvs) ∧ kvs.length ≤ 1000 ∧ ∀ p H1, H p = none → Same H H1 → H1 p = some (.lst (kvs.map (·.2))) → Q (.ref p) H1
theorem kv_at : ∀ {kvs : List (Key × V)} {v1 : List (Key × Value)} {i : Nat} {q : Key × V} {k : Key} {u : Value}, KV kvs v1 → kvs[i]? = some q → v1[i]? = some (k, u) → RelV q.2 u
  | _, _, i, _, _, _, .nil, e, _ => by simp at e
  | _, _, 0, _, _, _, .cons h _, e, e2 => by simp at e e2; subst e; rw [e2] at h; exact h.2
  | _, _, i + 1, _, _, _, .cons _ t, e, e2 => kv_at (i := i) t (by simpa using e) (by simpa using e2)
theorem vals_snds {kvs : List (Key × V)} {v1 : List (Key × Value)} {acc : Array Value} (r : KV kvs v1) (h : ItemsOf (fun i v => ∃ k, v1[i]? = some (k, v)) acc v1.length) : Vals (kvs.map (·.2)) acc.toList := by
  have hl := r.length
  obtain ⟨hs, hi⟩ := h
  refine vals_of (by rw [List.length_map]; have := Array.length_toList (xs := acc); omega) fun i v u hv hu => ?_
  rw [Array.getElem?_toList] at hu
  obtain ⟨k, h1⟩ := hi i u hu
  rw [List.getElem?_map] at hv
  obtain ⟨q, hq, rfl⟩ := Option.map_eq_some_iff.mp hv
  exact kv_at r hq h1
theorem c_listV (hc : X.calm = true := by rfl) : CallR X (.type "list") rListV := by
  intro pins s σ H xs us Q I r h
  obtain ⟨rv, a, kvs, rfl, hr, ha, hl, q⟩ := h
  obtain ⟨u, rfl, ru⟩ := vals1 r
  cases (show u = Value.ref rv from ru)
  obtain ⟨_, ea, v1, r1, d1⟩ := dk_of I.hok ha
  obtain ⟨ep, hat⟩ := d1.dictAt
  have hvw : s.heap.IsValuesView rv a := (I.hok rv _ hr).1
  have hz : sizeLine = 16777216 := sizeLine_eq
  have hl1 := r1.length
  refine PySem.W.kdl_call (PySem.W.kdl_values (knd := mixKind X.prog X.w) (kvs := v1) (ep := ep)) (I.ok.hd hc) ⟨hvw, hat⟩ (by omega) fun h' tk acc c kp hD hacc => ?_
  have hn : H s.heap.objs.size = none := I.hok.fresh (Nat.le_refl _)
  refine ⟨.ref s.heap.objs.size, _, I.laid (a := s.heap.objs.size) (o := .lst (kvs.map (·.2))) (t' := tk) kp (Nat.le_refl _) ⟨by rw [List.length_map]; omega, acc.toList, c, vals_snds r1 hacc, ?_⟩, rfl, q _ _ hn (same_new hn) upd_same⟩
  rw [Array.toArray_toList]
  exact hD
theorem rd_listV {r a : Addr} {kvs : List (Key × V)} (h1 : H r = some (.ext (ViewO r a))) (h2 : H a = some (.dK kvs)) (h3 : kvs.length ≤ 1000) (q : ∀ p H1, H p = none → Same H H1 → H1 p = some (.lst (kvs.map (·.2))) → Q (.ref p) H1) : rListV [.ref r] H Q := ⟨r, a, kvs, rfl, h1, h2, h3, q⟩
end
end L2
namespace L2
open PySem PySem.Spec PyProof.Rows
section
variable {X : Cx} {K : PySem.W.Frag} {σ : St} {H : Hp} {Q : VK} {e : Expr} {te : TE} {pos : Pos} {pins : List (Addr × Obj)} {s : Shared}
def Ivw (a : Addr) (o : Obj) (kvs : List (Key × V)) : It :=
  ⟨fun i H => H a = some (.frz o (.dK kvs)) ∧ i < kvs.length, fun i H x H' => H' = H ∧ ∃ k, kvs[i]? = some (k, x), fun i H => H a = some (.frz o (.dK kvs)) ∧ kvs.length ≤ i⟩
theorem turn_vals {P : Program} {w : World} {K : PySem.W.Frag} {tg : Expr} (a it : Addr) (o : Obj) (kvs : List (Key × V)) (es : Array DictEntry) (ep : Nat) (hes : o.data = .dict es ep) : Turn P w K tg (Ivw a o kvs) [it] it (fun i h => h.IsValIter it a i kvs.length ep) where
  mem := by simp
  obj := fun i h st b hb => by
    have e : b = it := by simpa using hb
    subst e
    obtain ⟨o, e, c, d⟩ := st
    exact ⟨o, e, fun v z => by rw [d] at z; cases z⟩
  keep := fun i h h' st k => st.at fun o e => k it (by simp) o e
  item := by
    intro X hP hw hK hc i pins s σ H E I hf st hg
    subst hP hw hK
    obtain ⟨ha, hi⟩ := hg
    obtain ⟨ho, _, _, xs, r, o', es', ep', h1, h2, h3, h4, h5, h6⟩ := I.hok a _ ha
    rw [ho] at h1
    cases h1
    rw [hes] at h3
    cases h3
    obtain ⟨f0, f1, f2, f3, f4, f5⟩ := hf it (by simp)
    have hlen := KV.length r
    have hxi : i < xs.length := by omega
    rw [hlen] at st
    refine wpAny_pyNext_values_item (knd := mixKind X.prog X.w) st ⟨o, es, ho, h2, hes, h4, h5, h6⟩ (k := xs[i].1) (v := xs[i].2) (List.getElem?_eq_getElem hxi) fun h' st' sb => ?_
    have I1 : Inv X pins σ H { s with heap := h' } := I.turned (t' := s.toks) (fun b o hb e => (sb.2 b hb).trans e) f0 f1 f3 f4 f5
    have rv : RelV kvs[i].2 xs[i].2 := kv_at r (List.getElem?_eq_getElem hi) (List.getElem?_eq_getElem hxi)
    obtain ⟨oi, e1, e2, e3⟩ := id st'
    rw [← hlen] at st'
    exact ⟨_, rfl, go_of (s := { s with heap := h' }) e1 e2 e3 (by decide) ⟨kvs[i].2, H, I1, rv, ⟨rfl, kvs[i].1, List.getElem?_eq_getElem hi⟩, st', fun b hb => (hf b hb).1⟩⟩
  done := by
    intro X hP hw hK hc i pins s σ H E I hf st hg
    subst hP hw hK
    obtain ⟨ha, hi⟩ := hg
    obtain ⟨ho, _, _, xs, r, o', es', ep', h1, h2, h3, h4, h5, h6⟩ := I.hok a _ ha
    rw [ho] at h1
    cases h1
    rw [hes] at h3
    cases h3
    obtain ⟨f0, f1, f2, f3, f4, f5⟩ := hf it (by simp)
    have hlen := KV.length r
    rw [hlen] at st
    exact wpAny_pyNext_values_end (knd := mixKind X.prog X.w) (I.ok.hd hc) st ⟨o, es, ho, h2, hes, h4, h5, h6⟩ (List.getElem?_eq_none (by omega)) fun h' eb => ⟨rfl, I.turned (t' := s.toks) (fun b o hb e => eb b o hb e) f0 f1 f3 f4 f5⟩
  self := fun _ _ _ _ _ st h => wpAny_pyIter_valiter st h
def iVals (te : TE) : TI := fun σ H R => te σ H fun x H1 => ∃ r a kvs, x = .ref r ∧ H1 r = some (.ext (ViewO r a)) ∧ H1 a = some (.dK kvs) ∧ ∀ o, R (Ivw a o kvs) (upd H1 a (.frz o (.dK kvs)))
theorem bi_vals {tg : Expr} (h : BE X e te) : BI X tg e (iVals te) := ⟨by
  intro pins s σ H R I q
  refine thn (h.h pins s σ H _ I q) fun u s1 ⟨x, H1, I1, rx, r, a, kvs, ex, hr, ha, q⟩ => ?_
  subst ex
  cases (show u = Value.ref r from rx)
  obtain ⟨o, ho, I2⟩ := I1.freezeK ha
  obtain ⟨hz0, hm, xs, rk, o', es, ep, h1, h2, h3, h4, h5, h6⟩ := I1.hok a _ ha
  rw [ho] at h1
  cases h1
  have hvw : s1.heap.IsValuesView r a := (I1.hok r _ hr).1
  have hlen := KV.length rk
  refine wpAny_pyIter_values (knd := mixKind X.prog X.w) hvw ⟨o, es, ho, h2, h3, h4, h5, h6⟩ ?_
  have hn : upd H1 a (.frz o (.dK kvs)) s1.heap.objs.size = none := I2.hok.fresh (Nat.le_refl _)
  refine ⟨s1.heap.objs.size, [s1.heap.objs.size], _, _, _, rfl, I2.kept (t' := s1.toks) (fun b u e => Heap.get?_push_of_some _ e), turn_vals a _ o kvs es ep h3, ?_, fun b hb => ?_, q o⟩
  · rw [hlen]
    exact ⟨_, Heap.get?_push_size _ rfl, rfl, rfl⟩
  · rw [List.mem_singleton.mp hb]
    exact I2.fpOk (Nat.le_refl _) hn⟩
instance vw1 {te : TE} {F : It → Hp → Prop} : RdS (iVals te σ H F) (te σ H fun x H1 => ∃ r a kvs, x = .ref r ∧ H1 r = some (.ext (ViewO r a)) ∧ H1 a = some (.dK kvs) ∧ ∀ o, F (Ivw a o kvs) (upd H1 a (.frz o (.dK kvs)))) := ⟨id⟩
theorem lcWw {a : Addr} {o : Obj} {kvs : List (Key × V)} {ix : List Nat} (W : Nat → List V → Hp → Prop) (hz : kvs.length ≤ sizeLine) (h0 : W 0 [] H) (hl : ∀ i ys H', W i ys H' → H' a = some (.frz o (.dK kvs)) ∧ ys.length = i)
    (hE : ∀ i k v ys H', kvs[i]? = some (k, v) → W i ys H' → te (some v :: pick ix σ) H' fun y H5 => W (i + 1) (ys ++ [y]) H5)
    (hQ : ∀ ys p H' H1, W kvs.length ys H' → H' p = none → Same H' H1 → H1 p = some (.lst ys) → Q (.ref p) H1) : LcW (Ivw a o kvs) ix σ tYes te Q H := by
  refine ⟨fun i m ys H2 => m = kvs.length - i ∧ i ≤ kvs.length ∧ W i ys H2, ⟨kvs.length, by simp, Nat.zero_le _, h0⟩, ?_⟩
  rintro i m ys H2 ⟨rfl, hi, w⟩
  obtain ⟨q, e⟩ := hl i ys H2 w
  by_cases hlt : i < kvs.length
  · refine .inr ⟨⟨q, hlt⟩, by omega, fun x H3 y => ?_⟩
    obtain ⟨rfl, k, y⟩ := y
    show te _ _ _
    rw [show (fun y H5 => ∃ m', m' < kvs.length - i ∧ m' = kvs.length - (i + 1) ∧ i + 1 ≤ kvs.length ∧ W (i + 1) (ys ++ [y]) H5) = fun y H5 => W (i + 1) (ys ++ [y]) H5 from ?_]
    · exact hE i k x ys _ y w
    · funext y H5
      apply propext
      exact ⟨fun ⟨m', _, _, _, h⟩ => h, fun h => ⟨kvs.length - (i + 1), by omega, rfl, hlt, h⟩⟩
  · have : i = kvs.length := by omega
    subst this
    exact .inl ⟨⟨q, Nat.le_refl _⟩, fun D hD => hQ ys D H2 _ w hD (same_new hD) upd_same⟩
theorem forW2 {a : Addr} {o : Obj} {kvs : List (Key × V)} {g : TG} {tb : TS} {D : Ends} (Pv : Nat → St → Hp → Prop) (h0 : Pv 0 σ H) (hl : ∀ i σ H, Pv i σ H → H a = some (.frz o (.dK kvs)))
    (hs : ∀ i k v σ H, kvs[i]? = some (k, v) → Pv i σ H → g v σ H fun σ2 H2 => tb { nx := Pv (i + 1), rt := D.rt, ct := Pv (i + 1), bk := D.nx } σ2 H2) (hd : ∀ σ H, Pv kvs.length σ H → D.nx σ H) : ForW (Ivw a o kvs) g tb D σ H := by
  refine ⟨fun i m σ H => m = kvs.length - i ∧ i ≤ kvs.length ∧ Pv i σ H, ⟨kvs.length, by simp, Nat.zero_le _, h0⟩, ?_⟩
  rintro i m σ H ⟨rfl, hi, p⟩
  by_cases hlt : i < kvs.length
  · refine .inr ⟨⟨hl i σ H p, hlt⟩, Pv (i + 1), fun σ' H' p' => ⟨kvs.length - (i + 1), by omega, rfl, hlt, p'⟩, fun x H' y => ?_⟩
    obtain ⟨rfl, k, y⟩ := y
    exact hs i k x σ _ y p
  · have e : i = kvs.length := by omega
    subst e
    exact .inl ⟨⟨hl _ σ H p, Nat.le_refl _⟩, hd σ H p⟩
end
end L2
namespace L2
open PySem PySem.Spec PyProof.Rows
section
variable {X : Cx} {σ : St} {H : Hp} {pins : List (Addr × Obj)} {s : Shared}
theorem Inv.thaw {a : Addr} {o : Obj} {x : HO} (I : Inv X pins σ H s) (e : H a = some (.frz o x)) (n : ∀ o u, X.H₀ a ≠ some (.frz o u)) : Inv X pins σ (upd H a x) s := by
  have nn : ∀ {b : Addr}, H b = none → upd H a x b = none := fun {b} h => by rw [upd_ne (fun z => by rw [z, e] at h; cases h)]; exact h
  have ns : ∀ {b : Addr} {u : HO}, H b = some u → (∀ o' x', u ≠ .frz o' x') → upd H a x b = some u := fun {b u} h k => by rw [upd_ne (fun z => by rw [z, e] at h; cases h; exact k _ _ rfl)]; exact h
  refine { I with base := { I.base with free := fun b ob q m hx => nn (I.base.free b ob q m hx), tups := fun b xs q => ns (I.base.tups b xs q) (fun _ _ z => by cases z), frzs := fun b ob u q => ?_, tbls := fun b ps q => ?_ }, free := nn I.free, freeC := fun y c q => nn (I.freeC y c q), pin := fun p hp => ?_, hok := fun b u q => ?_ }
  · rw [upd_ne (fun z => by rw [z] at q; exact n _ _ q)]
    exact I.base.frzs b ob u q
  · obtain ⟨more, h⟩ := I.base.tbls b ps q
    exact ⟨more, ns h (fun _ _ z => by cases z)⟩
  · obtain ⟨p1, p2, p3⟩ := I.pin p hp
    exact ⟨p1, nn p2, p3⟩
  · have st : ∀ {c : Addr} {v : HO}, ObjOk X.prog X.w H s.heap c v → ObjOk X.prog X.w (upd H a x) s.heap c v := fun {c v} h => h.stay (fun d w _ q => q) (fun d r => ns r (fun _ _ z => by cases z)) (fun d xs r => ns r (fun _ _ z => by cases z))
    by_cases z : b = a
    · subst z
      rw [upd_same] at q
      cases q
      exact st (I.hok b _ e).2
    · rw [upd_ne z] at q
      exact st (I.hok b u q)
def Thw (H₀ H' : Hp) (R : Hp → Prop) : Prop := R H' ∨ ∃ a o x, H' a = some (.frz o x) ∧ (∀ o u, H₀ a ≠ some (.frz o u)) ∧ R (upd H' a x)
def tThaw (H₀ : Hp) (t : TS) : TS := fun D σ H => t { nx := fun σ' H' => Thw H₀ H' (D.nx σ'), rt := fun v H' => Thw H₀ H' (D.rt v), bk := D.bk, ct := D.ct } σ H
theorem Thw.go {X : Cx} {pins : List (Addr × Obj)} {σ : St} {H' : Hp} {s : Shared} {R : Hp → Prop} (I : Inv X pins σ H' s) (h : Thw X.H₀ H' R) : ∃ H2, Inv X pins σ H2 s ∧ R H2 :=
  h.elim (fun r => ⟨H', I, r⟩) fun ⟨_, _, _, e, n, r⟩ => ⟨_, I.thaw e n, r⟩
theorem sp_thaw {D : Ends} {f : Flow} {s' : Shared} (h : SP X pins { nx := fun σ' H' => Thw X.H₀ H' (D.nx σ'), rt := fun v H' => Thw X.H₀ H' (D.rt v), bk := D.bk, ct := D.ct } f s') : SP X pins D f s' := by
  cases f with
  | next =>
    obtain ⟨σ', H', I, q⟩ := h
    obtain ⟨H2, I2, r⟩ := Thw.go I q
    exact ⟨σ', H2, I2, r⟩
  | brk => exact h
  | cont => exact h
  | ret u =>
    obtain ⟨v, σ', H', I, rv, q⟩ := h
    obtain ⟨H2, I2, r⟩ := Thw.go I q
    exact ⟨v, σ', H2, I2, rv, r⟩
theorem bs_thaw {st : Stmt} {t : TS} (h : BS X st t) : BS X st (tThaw X.H₀ t) := ⟨fun pins s σ H D I q => thn (h.h pins s σ H _ I q) fun _ _ x => sp_thaw x⟩
instance th1 {H₀ : Hp} {t : TS} {D : Ends} : RdS (tThaw H₀ t D σ H) (t { nx := fun σ' H' => Thw H₀ H' (D.nx σ'), rt := fun v H' => Thw H₀ H' (D.rt v), bk := D.bk, ct := D.ct } σ H) := ⟨id⟩
end
end L2
namespace L2
open PySem PySem.Spec PyProof.Rows
section
variable {X : Cx} {K : PySem.W.Frag} {σ : St} {H : Hp} {Q : VK} {o : Expr} {to : TE} {apos cpos : Pos}
def KViewO (r d : Addr) (h : Heap) : Prop := PySem.W.KdlKeysView h r d
theorem KViewO.ok {P : Program} {w : World} {h : Heap} {r d : Addr} (x : KViewO r d h) : ObjOk P w H h r (.ext (KViewO r d)) :=
  ⟨x, let ⟨ob, e, _⟩ := x; ⟨ob, e⟩, fun _ _ y k => let ⟨ob, e, c, dd⟩ := y; ⟨ob, k _ e, c, dd⟩⟩
def rKeysD : V → List V → Hp → VK → Prop := fun x vs H Q => ∃ a kvs, x = .ref a ∧ vs = [] ∧ H a = some (.dK kvs) ∧ ∀ r H1, H r = none → Same H H1 → H1 r = some (.ext (KViewO r a)) → Q (.ref r) H1
theorem mt_keys : MtM X "dict.keys" rKeysD := by
  intro pins s σ H x vs v us Q I rx rv h
  obtain ⟨a, kvs, rfl, rfl, ha, q⟩ := h
  cases (show v = Value.ref a from rx)
  have hus := rv.zero
  subst hus
  obtain ⟨_, ea, v1, r1, d1⟩ := dk_of I.hok ha
  refine call_meetsIn F.slot_dict_keys d1.typeIs F.entry_dict_keys (F.args_dict_keys_1 _) (PySem.W.kdl_meets_keys (mixKind X.prog X.w) a ea) ⟨⟨v1, d1⟩, ?_⟩
  have hn : H s.heap.objs.size = none := I.hok.fresh (Nat.le_refl _)
  exact ⟨.ref s.heap.objs.size, _, I.laid (a := s.heap.objs.size) (o := .ext (KViewO s.heap.objs.size a)) (t' := s.toks) (fun b u e => Heap.get?_push_of_some _ e) (Nat.le_refl _) (KViewO.ok ⟨_, Heap.get?_push_size _ rfl, rfl, rfl⟩), rfl, q _ _ hn (same_new hn) upd_same⟩
theorem bm_keys (ho : BE X o to) (hbase : attributeBase o "keys" X.env (eval o X.env) = eval o X.env := by rfl) (hline : (apos.endLine == cpos.line) = true := by rfl) :
    BE X (.Call (.Attribute o "keys" apos) [] [] cpos) (tBM0 X.K "dict" rKeysD to) :=
  ⟨pe_bm0 F.plainAttrs_dict F.slot_dict_keys F.type_dict_keys mt_keys ho.h hbase hline⟩
theorem rd_keys {a : Addr} {kvs : List (Key × V)} (h1 : H a = some (.dK kvs)) (q : ∀ r H1, H r = none → Same H H1 → H1 r = some (.ext (KViewO r a)) → Q (.ref r) H1) : rKeysD (.ref a) [] H Q := ⟨a, kvs, rfl, rfl, h1, q⟩
def rMaxK : List V → Hp → VK → Prop := fun xs H Q => ∃ (r a : Addr) (kvs : List (Key × V)) (ns : List Int), xs = [.ref r] ∧ H r = some (.ext (KViewO r a)) ∧ H a = some (.dK kvs) ∧ kvs.map (·.1) = ns.map Sum.inl ∧ 0 < ns.length ∧ ∀ M, M ∈ ns → (∀ b ∈ ns, b ≤ M) → Q (.int M) H
theorem c_maxK (hc : X.calm = true := by rfl) : CallR X (.builtin "max") rMaxK := by
  intro pins s σ H xs us Q I r h
  obtain ⟨rv, a, kvs, ns, rfl, hr, ha, hk, hz, q⟩ := h
  obtain ⟨u, rfl, ru⟩ := vals1 r
  cases (show u = Value.ref rv from ru)
  obtain ⟨_, ea, v1, r1, d1⟩ := dk_of I.hok ha
  obtain ⟨ep, hat⟩ := d1.dictAt
  have hvw : PySem.W.KdlKeysView s.heap rv a := (I.hok rv _ hr).1
  have e1 : v1.map (·.1) = ns.map Sum.inl := by rw [← r1.keys]; exact hk
  have hl : v1.length = ns.length := by
    have := congrArg List.length e1
    rwa [List.length_map, List.length_map] at this
  have hv : ∀ i v, (∃ k x, v1[i]? = some (k, x) ∧ (mixKind X.prog X.w).is k v = true) → i < ns.length ∧ ∃ t, v = .int (ns.getD i 0) t := by
    rintro i v ⟨k, x, h1, h2⟩
    have e2 : (v1.map (·.1))[i]? = some k := by rw [List.getElem?_map, h1]; rfl
    rw [e1, List.getElem?_map] at e2
    obtain ⟨n, hn, rfl⟩ := Option.map_eq_some_iff.mp e2
    obtain ⟨hi, e⟩ := List.getElem?_eq_some_iff.mp hn
    refine ⟨hi, ?_⟩
    rw [List.getD_eq_getElem?_getD, hn]
    rcases keyIs_shape (show keyIs (Sum.inl n) v = true from h2) with ⟨j, t, e3, rfl⟩ | ⟨x', t, e3, rfl⟩
    · cases e3; exact ⟨t, rfl⟩
    · cases e3
  refine call_max_walk (PySem.W.kdl_pyIter_keys hvw hat ?_)
  have lp : a < s.heap.objs.size := hat.lt_size
  refine ⟨_, _, _, _, _, _, _, rfl, Walks.dictKeys (A := X.A.in1) (I.ok.hd hc) _ a (Nat.ne_of_lt lp) v1 ep, ⟨⟨_, Heap.get?_push_size _ rfl, rfl, rfl⟩, hat.push _⟩, fun b hb => ?_, by omega, CmpOf.ints_gt (fun i => ns.getD i 0) (fun i v h => (hv i v h).2), fun v g tk hP kp => ?_⟩
  · show b < (s.heap.push _).objs.size
    rw [Heap.size_push]
    rcases List.mem_cons.mp hb with e | hb
    · rw [e]; exact Nat.lt_succ_self _
    · rw [List.mem_singleton.mp hb]; exact Nat.lt_succ_of_lt lp
  · obtain ⟨hi, t, rfl⟩ := hv _ v hP
    obtain ⟨a1, a2⟩ := argBest_gt (fun i => ns.getD i 0) (v1.length - 1)
    refine ⟨.int (ns.getD (argBest (fun i j => decide (ns.getD i 0 > ns.getD j 0)) (v1.length - 1)) 0), H, I.kept (t' := tk) (fun b o e => kp b o (fun hm => ?_) (Heap.get?_push_of_some _ e)), ⟨t, rfl⟩, q _ ?_ fun b hb => ?_⟩
    · exact absurd (List.mem_singleton.mp hm ▸ Heap.lt_size e) (Nat.lt_irrefl _)
    · exact getD_mem hi
    · obtain ⟨j, hj, rfl⟩ := mem_getD hb
      exact a2 j (by omega)
theorem rd_maxK {r a : Addr} {kvs : List (Key × V)} (ns : List Int) (h1 : H r = some (.ext (KViewO r a))) (h2 : H a = some (.dK kvs)) (h3 : kvs.map (·.1) = ns.map Sum.inl) (h4 : 0 < ns.length) (q : ∀ M, M ∈ ns → (∀ b ∈ ns, b ≤ M) → Q (.int M) H) : rMaxK [.ref r] H Q := ⟨r, a, kvs, ns, rfl, h1, h2, h3, h4, q⟩
end
end L2
namespace L2
open PySem PySem.Spec PyProof.Rows
section
variable {X : Cx} {K : PySem.W.Frag} {σ : St} {H : Hp} {Q : VK} {a b : Expr} {ta tb : TE} {es : List Expr} {pos : Pos}
theorem bm_keysK {o : Expr} {to : TE} {apos cpos : Pos} (hK : X.K = K) (ho : BE X o to) (hbase : attributeBase o "keys" X.env (eval o X.env) = eval o X.env := by rfl) (hline : (apos.endLine == cpos.line) = true := by rfl) : BE X (.Call (.Attribute o "keys" apos) [] [] cpos) (tBM0 K "dict" rKeysD to) := hK ▸ bm_keys ho hbase hline
def rLenK : List V → Hp → VK → Prop := fun xs H Q => ∃ p kvs, xs = [.ref p] ∧ H p = some (.dK kvs) ∧ kvs.length ≤ 1000 ∧ Q (.int (kvs.length : Nat)) H
theorem c_lenD : CallR X (.builtin "len") rLenK := by
  intro pins s σ H xs us Q I r h
  obtain ⟨p, kvs, rfl, hp, hn, q⟩ := h
  obtain ⟨u, rfl, ru⟩ := vals1 r
  cases (show u = Value.ref p from ru)
  obtain ⟨_, ea, v1, r1, d1⟩ := dk_of I.hok hp
  have hl := r1.length
  exact call_len_dict ea d1 (by omega) ⟨.int (kvs.length : Nat), H, I.tok _, ⟨_, by rw [hl]⟩, q⟩
theorem rd_lenD {p : Addr} {kvs : List (Key × V)} (h1 : H p = some (.dK kvs)) (h2 : kvs.length ≤ 1000) (q : Q (.int (kvs.length : Nat)) H) : rLenK [.ref p] H Q := ⟨p, kvs, rfl, h1, h2, q⟩
def tOrS (ta tb : TE) : TE := fun σ H Q => ta σ H fun x H1 => ∃ z : Str, x = .str z ∧ z.length ≤ 1000 ∧ (z.length ≠ 0 → Q (.str z) H1) ∧ (z.length = 0 → tb σ H1 Q)
theorem pe_orS (ha : PE X a ta) (hb : PE X (.BoolOp .Or (b :: es) pos) tb) : PE X (.BoolOp .Or (a :: b :: es) pos) (tOrS ta tb) := by
  intro pins s σ H Q I h
  refine BoolOp_or (thn (ha pins s σ H _ I h) fun v s1 ⟨x, H1, I1, r1, q1⟩ => ?_)
  obtain ⟨z, rfl, hl, q2, q3⟩ := q1
  obtain ⟨t, rfl⟩ := r1
  refine P.truthy_str (by omega) ?_
  by_cases hz : z.length = 0
  · have e : ((z.length : Int) != 0) = false := by simp [hz]
    rw [e]
    exact hb pins _ σ H1 Q (I1.tok _) (q3 hz)
  · have e : ((z.length : Int) != 0) = true := by simp [hz]
    rw [e]
    exact ⟨.str z, H1, I1.tok _, ⟨t, rfl⟩, q2 hz⟩
theorem b_orS (ha : BE X a ta) (hb : BE X (.BoolOp .Or (b :: es) pos) tb) : BE X (.BoolOp .Or (a :: b :: es) pos) (tOrS ta tb) := ⟨pe_orS ha.h hb.h⟩
instance ors1 : RdS (tOrS ta tb σ H Q) (ta σ H fun x H1 => ∃ z : Str, x = .str z ∧ z.length ≤ 1000 ∧ (z.length ≠ 0 → Q (.str z) H1) ∧ (z.length = 0 → tb σ H1 Q)) := ⟨id⟩
end
end L2
namespace L2
open PySem PySem.Spec PyProof.Rows
section
variable {X : Cx} {K : PySem.W.Frag} {σ : St} {H : Hp} {Q : VK} {pins : List (Addr × Obj)}
end
end L2
namespace SW
open PySem PySem.SetTable
abbrev Ris (xs : Array Nat) : Prop := xs.toList.Pairwise (· < ·)
end SW
namespace SW
open PySem PySem.SetTable
abbrev SE := Array (Int × Value)
end SW
namespace SW
open PySem PySem.SetTable
section
variable {prog : Program} {w : World} {κ : Type} [DecidableEq κ] (kd : KeyKind prog w κ)
def KeyOf (k : κ) (e : Int × Value) : Prop := kd.is k e.2 = true ∧ e.1 = kd.hash k ∧ e.2.scannable = true
def ledOf (w : World) : Bool := !(w.params.followText "set-order")
def SetW (h : Heap) (a : Addr) (ks : List κ) : Prop :=
  ∃ (o : Obj) (es : SE) (ep : Nat) (t : SetTable) (L : List (κ × (Int × Value))), h.get? a = some o ∧ o.ExactSet ∧ o.data = .set es ep t ∧ L.map (·.2) = es.toList ∧ (L.map (·.1)).Perm ks ∧ (∀ p ∈ L, KeyOf kd p.1 p.2) ∧ es.size < scanBound ∧ t.fits es.size = true ∧ Ris t.place ∧ t.led = ledOf w
variable {kd} {A : Around} {E : Value → Shared → Prop} {s : Shared} {a : Addr} {ks : List κ} {k : κ} {x : Value}
theorem SetW.kept {h h' : Heap} (S : SetW kd h a ks) (e : ∀ o, h.get? a = some o → h'.get? a = some o) : SetW kd h' a ks := by
  obtain ⟨o, es, ep, t, L, ho, r⟩ := S
  exact ⟨o, es, ep, t, L, e o ho, r⟩
theorem SetW.perm {h : Heap} {ks' : List κ} (S : SetW kd h a ks) (p : ks.Perm ks') : SetW kd h a ks' := by
  obtain ⟨o, es, ep, t, L, ho, hx, hd, l1, l2, r⟩ := S
  exact ⟨o, es, ep, t, L, ho, hx, hd, l1, l2.trans p, r⟩
end
end SW
namespace SW
open PySem PySem.Spec PySem.SetTable PyProof.Rows
section
variable {prog : Program} {w : World} {κ : Type} [DecidableEq κ] {kd : KeyKind prog w κ} {A : Around} {R : Result → Shared → Prop} {E : Value → Shared → Prop} {s : Shared}
end
end SW
namespace SW
open PySem PySem.Spec PySem.SetTable
section
variable {prog : Program} {w : World} {κ : Type} [DecidableEq κ] {kd : KeyKind prog w κ} {A : Around} {E : Value → Shared → Prop} {s : Shared}
end
end SW
namespace SW
open PySem PySem.Spec PySem.SetTable
section
variable {prog : Program} {w : World} {A : Around} {E : Value → Shared → Prop} {s : Shared}
end
end SW
namespace SW
open PySem PySem.Spec PySem.SetTable
local macro_rules | `(term| type_of% $n:ident) => return Lean.mkIdent (Lean.mkPrivateNameCore `PySem.SetOps (`PySem ++ n.getId))
local macro_rules | `(tactic| delta $n:ident) => if Lean.isPrivateName n.getId then Lean.Macro.throwUnsupported else `(tactic| delta $(Lean.mkIdent (Lean.mkPrivateNameCore `PySem.SetOps (`PySem ++ n.getId))):ident)
def dr (es : SE) (t : SetTable) : Bool := (type_of% drawn) es t
def IsSI (h : Heap) (it : Addr) (first : Value) (i : Nat) (a : Addr) (n ep : Nat) : Prop := ∃ o, h.get? it = some o ∧ o.cls = .type "set_iterator" ∧ o.data = .fields #[first, .int i 0, .ref a, .int n 0, .int ep 0]
section
variable {prog : Program} {w : World} {A : Around} {E : Value → Shared → Prop} {s : Shared} {a it : Addr} {o : Obj} {es : SE} {ep : Nat} {t : SetTable}
end
end SW
namespace SW
open PySem PySem.Spec PySem.SetTable
local macro_rules | `(term| type_of% $n:ident) => return Lean.mkIdent (Lean.mkPrivateNameCore `PySem.SetOps (`PySem ++ n.getId))
local macro_rules | `(tactic| delta $n:ident) => if Lean.isPrivateName n.getId then Lean.Macro.throwUnsupported else `(tactic| delta $(Lean.mkIdent (Lean.mkPrivateNameCore `PySem.SetOps (`PySem ++ n.getId))):ident)
def SAt (w : World) (a : Addr) (es : SE) (ep : Nat) (t : SetTable) (ord : List Value) (first : Value) (i : Nat) (h : Heap) : Prop :=
  (w.params.followText "set-order" = true ∧ (∃ j : Nat, first = .int j 0) ∧ ord = (pickOrder (w.params.setOrder a ep) es).toList.map (·.2)) ∨
  (w.params.followText "set-order" = false ∧ dr es t = false ∧ t.led = true ∧ Ris t.place ∧ (∃ j : Nat, first = .int j 0 ∧ below t.place j = i) ∧ ord = es.toList.map (·.2)) ∨
  (∃ (tp : Addr) (ps : List Nat), first = .ref tp ∧ h.get? tp = some { cls := .type "tuple", data := .seq (ps.map fun (i : Nat) => Value.int i 0).toArray } ∧ ord.map some = ps.map fun p => es[p]?.map (·.2))
section
variable {prog : Program} {w : World} {A : Around} {E : Value → Shared → Prop} {s : Shared} {a it : Addr} {o : Obj} {es : SE} {ep : Nat} {t : SetTable} {ord : List Value} {first : Value} {i : Nat}
end
end SW
namespace SW
open PySem PySem.Spec PySem.SetTable
local macro_rules | `(term| type_of% $n:ident) => return Lean.mkIdent (Lean.mkPrivateNameCore `PySem.SetOps (`PySem ++ n.getId))
local macro_rules | `(tactic| delta $n:ident) => if Lean.isPrivateName n.getId then Lean.Macro.throwUnsupported else `(tactic| delta $(Lean.mkIdent (Lean.mkPrivateNameCore `PySem.SetOps (`PySem ++ n.getId))):ident)
section
variable {prog : Program} {w : World} {A : Around} {E : Value → Shared → Prop} {s : Shared} {a it : Addr} {o : Obj} {es : SE} {ep : Nat} {t : SetTable} {ord : List Value} {first : Value} {i : Nat}
end
end SW
namespace SW
open PySem PySem.Spec PySem.SetTable
local macro_rules | `(term| type_of% $n:ident) => return Lean.mkIdent (Lean.mkPrivateNameCore `PySem.Builtin.List.Common (`PySem.Builtin.List ++ n.getId))
section
variable {prog : Program} {w : World} {A : Around} {E : Value → Shared → Prop} {s : Shared} {a it : Addr} {o : Obj} {es : SE} {ep : Nat} {t : SetTable} {ord : List Value}
theorem IsSI.at {h h' : Heap} {first : Value} {i n : Nat} (x : IsSI h it first i a n ep) (e : ∀ u, h.get? it = some u → h'.get? it = some u) : IsSI h' it first i a n ep := by
  obtain ⟨u, h1, r⟩ := x
  exact ⟨u, e u h1, r⟩
theorem SAt.at {h h' : Heap} {first : Value} {i : Nat} (x : SAt w a es ep t ord first i h) (e : ∀ tp u, first = .ref tp → h.get? tp = some u → h'.get? tp = some u) : SAt w a es ep t ord first i h' := by
  rcases x with x | x | ⟨tp, ps, e1, e2, e3⟩
  · exact .inl x
  · exact .inr (.inl x)
  · exact .inr (.inr ⟨tp, ps, e1, e tp _ e1 e2, e3⟩)
end
end SW
namespace SW
open PySem PySem.Spec PySem.SetTable
local macro_rules | `(tactic| delta $n:ident) => if Lean.isPrivateName n.getId then Lean.Macro.throwUnsupported else `(tactic| delta $(Lean.mkIdent (Lean.mkPrivateNameCore `PySem.Builtin.List.Common (`PySem.Builtin.List ++ n.getId))):ident)
section
variable {prog : Program} {w : World} {κ : Type} [DecidableEq κ] {kd : KeyKind prog w κ} {A : Around} {E : Value → Shared → Prop} {s : Shared} {a : Addr} {ks : List κ}
end
end SW
namespace SW
open PySem PySem.Spec PySem.SetTable
local macro_rules | `(tactic| delta $n:ident) => if Lean.isPrivateName n.getId then Lean.Macro.throwUnsupported else `(tactic| delta $(Lean.mkIdent (Lean.mkPrivateNameCore `PySem.Builtin.List.Common (`PySem.Builtin.List ++ n.getId))):ident)
local macro_rules | `(term| type_of% $n:ident) => return Lean.mkIdent (Lean.mkPrivateNameCore `PySem.Builtin.List.Common (`PySem.Builtin.List ++ n.getId))
section
variable {prog : Program} {w : World} {κ : Type} [DecidableEq κ] {kd : KeyKind prog w κ} {A : Around} {E : Value → Shared → Prop} {s : Shared} {a : Addr} {ks : List κ}
end
end SW
namespace L2
open PySem PySem.Spec PyProof.Rows
section
variable {X : Cx} {K : PySem.W.Frag} {σ : St} {H : Hp} {Q : VK} {pins : List (Addr × Obj)} {s : Shared}
end
end L2
namespace L2
open PySem PySem.Spec PyProof.Rows
section
variable {X : Cx} {K : PySem.W.Frag} {σ : St} {H : Hp} {Q : VK}
end
end L2
namespace L2
open PySem PySem.Spec PyProof.Rows
section
variable {X : Cx} {K : PySem.W.Frag} {σ : St} {H : Hp} {Q : VK}
theorem pre_sum (ns : List Int) : ∀ n, n ≤ ns.length → preSum (fun i => (ns[i]?).getD 0) n = (ns.take n).sum
  | 0, _ => rfl
  | n + 1, h => by
    rw [preSum, pre_sum ns n (by omega), List.take_succ_eq_append_getElem (by omega), List.sum_append, List.getElem?_eq_getElem (by omega)]
    simp
def rSumI (K : PySem.W.Frag) : List V → Hp → VK → Prop := fun xs H Q => ∃ (p : Addr) (ns : List Int), xs = [.ref p] ∧ SqL K H p (ns.map V.int) ∧ Q (.int ns.sum) H
theorem c_sumI (hc : X.calm = true := by rfl) : CallR X (.builtin "sum") (rSumI X.K) := by
  intro pins s σ H xs us Q I r h
  obtain ⟨p, ns, rfl, hp, q⟩ := h
  obtain ⟨u, rfl, ru⟩ := vals1 r
  cases (show u = Value.ref p from ru)
  obtain ⟨its, rv, pl, hz⟩ := I.list hp
  have il := pl.isList
  have lp : p < s.heap.objs.size := by obtain ⟨_, e, _⟩ := il; exact Heap.lt_size e
  have hil : its.length = ns.length := by rw [rv.len, List.length_map]
  refine call_sum_walkAnyS (wpAny_pyIter_list il ⟨s.heap.objs.size, [s.heap.objs.size, p], [s.heap.objs.size], _, its.toArray.size, _, _, fun i => (ns[i]?).getD 0, rfl, (Walks.list (A := X.A.in1) (I.ok.hd hc) _ p (Nat.ne_of_lt lp) its.toArray).toS, ⟨⟨_, Heap.get?_push_size _ rfl, rfl, rfl⟩, il.push _⟩, fun b hb => ?_, fun i v hP => ?_, fun s' t' hm => ?_⟩)
  · show b < (s.heap.push _).objs.size
    rw [size_push']
    rcases List.mem_cons.mp hb with e | hb
    · rw [e]; exact Nat.lt_succ_self _
    · rw [List.mem_singleton.mp hb]; exact Nat.lt_succ_of_lt lp
  · have hv : its[i]? = some v := by simpa using hP
    have hi : i < ns.length := by rw [← hil]; exact (List.getElem?_eq_some_iff.mp hv).1
    obtain ⟨u, hu, ru⟩ := rv.get (show (ns.map V.int)[i]? = some (V.int ns[i]) by rw [List.getElem?_map, List.getElem?_eq_getElem hi]; rfl)
    rw [hv] at hu
    cases hu
    obtain ⟨t, rfl⟩ := ru
    exact ⟨t, by dsimp only; rw [List.getElem?_eq_getElem hi]; rfl⟩
  · have hk : ∀ b o, s.heap.get? b = some o → s'.heap.get? b = some o := fun b o e =>
      hm.heap b o (fun z => absurd (Heap.lt_size e) (by rw [List.mem_singleton.mp z]; exact Nat.lt_irrefl _)) (Heap.get?_push_of_some _ e)
    rw [Moved.eq_with hm, List.size_toArray, hil, pre_sum ns _ (Nat.le_refl _), List.take_length]
    exact ⟨.int ns.sum, H, I.kept (t' := s'.toks) hk, ⟨_, rfl⟩, q⟩
theorem rd_sumI {p : Addr} (ns : List Int) (h1 : SqL K H p (ns.map V.int)) (q : Q (.int ns.sum) H) : rSumI K [.ref p] H Q := ⟨p, ns, rfl, h1, q⟩
end
end L2
namespace L2
open PySem PySem.Spec PyProof.Rows
section
variable {X : Cx} {K : PySem.W.Frag} {σ : St} {H : Hp} {Q : VK} {o : Expr} {to : TE} {apos cpos : Pos}
theorem seq_cut {T U : TS} {D : Ends} (R : St → Hp → Prop) (h1 : ∀ nx' : St → Hp → Prop, (∀ σ' H', R σ' H' → nx' σ' H') → T { nx := nx', rt := D.rt, bk := D.bk, ct := D.ct } σ H) (h2 : ∀ σ' H', R σ' H' → U D σ' H') : tSeq T U D σ H := h1 (U D) h2
theorem whW {c : TT} {tb : TS} {D : Ends} (W : Nat → St → Hp → Prop) (m : Nat) (h0 : W m σ H)
    (hs : ∀ m σ H, W m σ H → c σ H fun b H1 => if b = true then ∃ N : St → Hp → Prop, (∀ σ' H', N σ' H' → ∃ m', m' < m ∧ W m' σ' H') ∧ tb { D with nx := N, ct := N, bk := D.nx } σ H1 else D.nx σ H1) : tWhile c tb D σ H := ⟨W, ⟨m, h0⟩, hs⟩
end
end L2
namespace HT
open PySem PySem.Spec PyProof.Rows
section
variable {prog : Program} {w : World} {A : Around} {E : Value → Shared → Prop} {s : Shared}
end
end HT
namespace L2
open PySem PySem.Spec PyProof.Rows
section
variable {X : Cx}
end
mutual
theorem Rep.stayN {H H' : Hp} (s : SameN H H') : ∀ {d : D} {v : V}, Rep H d v → Rep H' d v
  | .non, v, h => by simp only [Rep] at h ⊢; exact h
  | .bl b, v, h => by simp only [Rep] at h ⊢; exact h
  | .int b, v, h => by simp only [Rep] at h ⊢; exact h
  | .str b, v, h => by simp only [Rep] at h ⊢; exact h
  | .lst ds, v, h => by simp only [Rep] at h ⊢; obtain ⟨a, vs, e, h1, h2⟩ := h; exact ⟨a, vs, e, s _ _ h1 (fun _ z => by cases z), Reps.stayN s h2⟩
  | .tup ds, v, h => by simp only [Rep] at h ⊢; obtain ⟨a, vs, e, h1, h2⟩ := h; exact ⟨a, vs, e, s _ _ h1 (fun _ z => by cases z), Reps.stayN s h2⟩
  | .dct, v, h => by simp only [Rep] at h ⊢; obtain ⟨a, vs, e, h1⟩ := h; exact ⟨a, vs, e, s _ _ h1 (fun _ z => by cases z)⟩
theorem Reps.stayN {H H' : Hp} (s : SameN H H') : ∀ {ds : List D} {vs : List V}, Reps H ds vs → Reps H' ds vs
  | [], vs, h => by simp only [Reps] at h ⊢; exact h
  | d :: ds, vs, h => by simp only [Reps] at h ⊢; obtain ⟨v, r, e, h1, h2⟩ := h; exact ⟨v, r, e, Rep.stayN s h1, Reps.stayN s h2⟩
end
end L2
namespace T40
open PySem L2
def top (i : Nat) : Stmt := PySem.Challenge.pw_tierstore_k40_hand.main.body.getD i (.Pass ⟨0, 0, 0, 0⟩)
abbrev s_rank_of : Stmt := top 1
abbrev s_in_order : Stmt := top 2
abbrev s_stretch : Stmt := top 3
abbrev s_newest : Stmt := top 4
abbrev s__law_cell_at : Stmt := top 8
abbrev s__law_stream : Stmt := top 9
abbrev s__law_sign : Stmt := top 10
abbrev s__law_text : Stmt := top 11
abbrev s__law_keys : Stmt := top 12
abbrev s__law_row : Stmt := top 13
abbrev s__law_put : Stmt := top 14
abbrev s__law_ahead : Stmt := top 15
abbrev s__law_in_order : Stmt := top 16
abbrev s__law_found : Stmt := top 17
abbrev s__law_asked : Stmt := top 18
abbrev s_law : Stmt := top 19
abbrev s_Hand_init : Stmt := inClass (top 6) 0
abbrev s_Hand_put : Stmt := inClass (top 6) 1
abbrev s_Hand_find : Stmt := inClass (top 6) 2
abbrev s_Hand_many : Stmt := inClass (top 6) 3
abbrev s_Hand_greatest : Stmt := inClass (top 6) 4
abbrev s_Hand_rows : Stmt := inClass (top 6) 5
abbrev s_Hand_between : Stmt := inClass (top 6) 6
abbrev s_Hand_clear : Stmt := inClass (top 6) 7
structure Cs where
  Hand : Addr
  Hand_init : Addr
  Hand_put : Addr
  Hand_find : Addr
  Hand_many : Addr
  Hand_greatest : Addr
  Hand_rows : Addr
  Hand_between : Addr
  Hand_clear : Addr
structure Cl (K : PySem.W.Frag) (mg : Str → Option Value) (c : Cs) : Prop where
  m_Hand : mg "Hand" = some (.ref c.Hand)
  na1 : PySem.W.findIn K (.ref c.Hand) "kept" = some none
  i_Hand_init : ∃ fd dV, FunD K "__init__" "Hand.__init__" s_Hand_init dV c.Hand_init fd ∧ HasB K fd ["self"] []
  mk_Hand : Mk K c.Hand c.Hand_init
  i_Hand_put : ∃ fd dV, FunD K "put" "Hand.put" s_Hand_put dV c.Hand_put fd ∧ HasB K fd ["self", "key", "stamp", "value"] []
  me_Hand_put : Meth K c.Hand "put" c.Hand_put
  i_Hand_find : ∃ fd dV, FunD K "find" "Hand.find" s_Hand_find dV c.Hand_find fd ∧ HasB K fd ["self", "key", "stamp"] []
  me_Hand_find : Meth K c.Hand "find" c.Hand_find
  i_Hand_many : ∃ fd dV, FunD K "many" "Hand.many" s_Hand_many dV c.Hand_many fd ∧ HasB K fd ["self"] []
  me_Hand_many : Meth K c.Hand "many" c.Hand_many
  i_Hand_greatest : ∃ fd dV, FunD K "greatest" "Hand.greatest" s_Hand_greatest dV c.Hand_greatest fd ∧ HasB K fd ["self"] []
  me_Hand_greatest : Meth K c.Hand "greatest" c.Hand_greatest
  i_Hand_rows : ∃ fd dV, FunD K "rows" "Hand.rows" s_Hand_rows dV c.Hand_rows fd ∧ HasB K fd ["self"] []
  me_Hand_rows : Meth K c.Hand "rows" c.Hand_rows
  i_Hand_between : ∃ fd dV, FunD K "between" "Hand.between" s_Hand_between dV c.Hand_between fd ∧ HasB K fd ["self", "low", "high"] [] ∧ HasB K fd ["self", "low", "high"] [.non] ∧ HasB K fd ["self", "low", "high"] [.str (PySem.Str.ofString ""), .non]
  me_Hand_between : Meth K c.Hand "between" c.Hand_between
  i_Hand_clear : ∃ fd dV, FunD K "clear" "Hand.clear" s_Hand_clear dV c.Hand_clear fd ∧ HasB K fd ["self"] []
  me_Hand_clear : Meth K c.Hand "clear" c.Hand_clear
  c_Hand : Cls K c.Hand
structure Txt (K : PySem.W.Frag) (mg : Str → Option Value) : Prop where
  f_rank_of : HasFn K mg "rank_of" s_rank_of ["entry"]
  f_in_order : HasFn K mg "in_order" s_in_order ["entries"]
  f_stretch : HasFn K mg "stretch" s_stretch ["entries", "low", "high"]
  f_newest : HasFn K mg "newest" s_newest ["entries", "key", "stamp"]
  f__law_cell_at : HasFn K mg "_law_cell_at" s__law_cell_at ["_law_script", "_law_k"]
  f__law_stream : HasFn K mg "_law_stream" s__law_stream ["_law_cell", "_law_many"]
  f__law_sign : HasFn K mg "_law_sign" s__law_sign ["_law_number"]
  f__law_text : HasFn K mg "_law_text" s__law_text ["_law_number", "_law_least", "_law_most"]
  f__law_keys : HasFn K mg "_law_keys" s__law_keys ["_law_number", "_law_many"]
  f__law_row : HasFn K mg "_law_row" s__law_row ["_law_keys_here", "_law_number"]
  f__law_put : HasFn K mg "_law_put" s__law_put ["_law_rows", "_law_row_here"]
  f__law_ahead : HasFn K mg "_law_ahead" s__law_ahead ["_law_one", "_law_other"]
  f__law_in_order : HasFn K mg "_law_in_order" s__law_in_order ["_law_rows"]
  f__law_found : HasFn K mg "_law_found" s__law_found ["_law_rows", "_law_key", "_law_stamp"]
  f__law_asked : HasFn K mg "_law_asked" s__law_asked ["_law_hand", "_law_rows", "_law_keys_here", "_law_number", "_law_held"]
  b_enumerate : mg "enumerate" = none
  b_isinstance : mg "isinstance" = none
  b_len : mg "len" = none
  b_list : mg "list" = none
  b_max : mg "max" = none
  b_min : mg "min" = none
  b_range : mg "range" = none
  b_sorted : mg "sorted" = none
  b_sum : mg "sum" = none
  cl : ∃ c : Cs, Cl K mg c
local macro_rules | `(tactic| lcg_src) => `(tactic| first | with_reducible assumption | ((with_reducible refine' Same.get ?s ?e); (case s => with_reducible assumption); (case e => lcg_src)))
local macro_rules | `(tactic| lcg_sub) => `(tactic| first | with_reducible assumption | with_reducible exact Same.refl _ | ((with_reducible refine' Same.tr ?s ?e); (case s => with_reducible assumption); (case e => lcg_sub)))
local macro_rules | `(tactic| keq_rows) => `(tactic| first | with_reducible assumption | with_reducible exact Rep.int' | with_reducible exact Rep.str' | with_reducible exact Rep.bl' | with_reducible exact Rep.non' | ((with_reducible refine' Rep.same ?s ?e); (case s => with_reducible assumption); (case e => keq_rows)) | ((with_reducible refine' Rep.mkT ?c ?_); (case c => lcg_src); keq_hits) | ((with_reducible refine' Rep.mkL ?c ?_); (case c => lcg_src); keq_hits) | ((with_reducible refine' Rep.mkD ?c); (case c => lcg_src)))
local macro_rules | `(tactic| keq_hits) => `(tactic| first | with_reducible assumption | with_reducible exact Reps.nil' | ((with_reducible refine' Reps.cons' ?c ?_); (case c => keq_rows); keq_hits) | ((with_reducible refine' Reps.same ?s ?e); (case s => with_reducible assumption); (case e => keq_hits)))
local macro_rules | `(tactic| tlg_ne) => `(tactic| first | with_reducible assumption | ((with_reducible refine' SqL.of ?c); (case c => lcg_src)) | ((with_reducible refine' SqT.of ?c); (case c => lcg_src)) | ((with_reducible refine' SqL.same ?s ?e); (case s => with_reducible assumption); (case e => tlg_ne)))
local macro_rules | `(tactic| kpc_turns) => `(tactic| first | decide | omega | (constructor <;> first | decide | omega))
local macro_rules | `(tactic| kas_types) => `(tactic| simp only [cxK, cxK', compK, start_cc, start_cn, start_nn])
local macro_rules | `(tactic| kpt_turns) => `(tactic| first
  | refine rd_go ?_
  | ((with_reducible refine' rd_mod ?c ?_); (case c => kpc_turns))
  | ((with_reducible refine' rd_fdiv ?c ?_); (case c => kpc_turns))
  | ((with_reducible refine' rd_mulI ?c ?_); (case c => first | exact .inl (by kpc_turns) | exact .inr (by kpc_turns)))
  | ((with_reducible refine' rd_mkT ?c ?_); (case c => (simp only [List.length_cons, List.length_nil]; decide)); intro _ _ _ _)
  | ((with_reducible refine' rd_mkL ?c ?_); (case c => (simp only [List.length_cons, List.length_nil]; decide)); intro _ _ _ _ _)
  | ((with_reducible refine' rd_ixT ?c ?d ?_); (case c => tlg_ne); (case d => exact rfl))
  | ((with_reducible refine' rd_ixL ?c ?d ?_); (case c => tlg_ne); (case d => exact rfl))
  | ((with_reducible refine' rd_isT ?c ?_); (case c => lcg_src))
  | ((with_reducible refine' rd_isL ?c ?_); (case c => lcg_src))
  | ((with_reducible refine' rd_isD ?c ?_); (case c => lcg_src))
  | ((with_reducible refine' rd_lenT ?c ?_); (case c => tlg_ne))
  | ((with_reducible refine' rd_lenL ?c ?_); (case c => tlg_ne))
  | ((with_reducible refine' rd_lenS ?c ?_); (case c => first | assumption | (show _ ≤ 16777216; decide) | omega))
  | ((with_reducible refine' rd_slT ?c ?d ?_); (case c => tlg_ne); (case d => simp [HT.sIx]; done); intro _ _ _ h; (simp [cutV, HT.sIx] at h))
  | ((with_reducible refine' rd_bmL ?c ?_); (case c => lcg_src))
  | ((with_reducible refine' rd_shr ?c ?_); (case c => omega))
  | ((with_reducible refine' rd_dnew ?_); intro _ _ _ _ _)
  | ((with_reducible refine' rd_pow ?c ?_); (case c => kpc_turns))
  | ((with_reducible refine' rd_exL ?c ?_); (case c => tlg_ne))
  | ((with_reducible refine' rd_exT ?c ?_); (case c => tlg_ne))
  | ((with_reducible refine' rd_exr1 ?c ?_); (case c => kpc_turns))
  | ((with_reducible refine' rd_exr2 ?c ?_); (case c => refine ⟨?_, ?_, ?_, ?_⟩ <;> first | decide | omega))
  | ((with_reducible refine' rd_gTup ?c ?d ?_); (case c => tlg_ne); (case d => exact rfl))
  | ((with_reducible refine' rd_listL ?c ?_); (case c => tlg_ne); intro _ _ _ _ _)
  | ((with_reducible refine' rd_listT ?c ?_); (case c => tlg_ne); intro _ _ _ _ _)
  | ((with_reducible refine' rd_addL ?c ?d ?e ?_); (case c => lcg_src); (case d => lcg_src); (case e => first | (simp only [List.length_cons, List.length_nil]; decide) | (simp only [List.length_cons, List.length_nil, List.length_append, sizeLine_eq]; omega)); intro _ _ _ _ h; (try simp only [List.cons_append, List.nil_append] at h))
  | ((with_reducible refine' rd_addT ?c ?d ?f ?e ?_); (case c => lcg_src); (case d => lcg_src); (case f => (intro h; cases h)); (case e => first | (simp only [List.length_cons, List.length_nil]; decide) | (simp only [List.length_cons, List.length_nil, List.length_append, sizeLine_eq]; omega)); intro _ _ _ h; (try simp only [List.cons_append, List.nil_append] at h)))
local macro_rules | `(tactic| lcg_off) => `(tactic| repeat kpt_turns)
local macro_rules | `(tactic| kaf_pre) => `(tactic| ((with_reducible refine' rd_menu ?c ?a ?b ?_); (case c => tlg_ne); (case a => first | exact Int.emod_nonneg _ (by decide) | omega); (case b => first | exact Int.emod_lt_of_pos _ (by decide) | (simp only [List.length_cons, List.length_nil]; omega))))
local macro_rules | `(tactic| kaf_suf) => `(tactic| ((with_reducible refine' rd_pick ?c ?a ?b ?_); (case c => tlg_ne); (case a => first | exact Int.emod_nonneg _ (by decide) | omega); (case b => first | exact Int.emod_lt_of_pos _ (by decide) | (simp only [List.length_cons, List.length_nil]; omega))))
section
variable {P : Program} {w : World} {K : PySem.W.Frag} {mg : Str → Option Value} {base : Heap}
def spCell (K : PySem.W.Frag) : Sp := fun vs H Q _ => ∃ (a : Addr) (ns : List Int) (k : Nat), vs = [.ref a, .int k] ∧ SqL K H a (ns.map V.int) ∧ Q (.int (ns.getD k 0)) H
theorem sc__law_cell_at : FnScope ["_law_script", "_law_k"] ["_law_script", "_law_k"] (defScope s__law_cell_at) := ⟨rfl, rfl, rfl, by decide +kernel, rfl, by decide +kernel, by decide +kernel⟩
theorem ok__law_cell_at (T : Txt K mg) {f : Addr} {fd : FuncData} (N : Fn K mg "_law_cell_at" s__law_cell_at ["_law_script", "_law_k"] f fd) : FnOk P w K mg base CX0 (1) f fd ["_law_script", "_law_k"] (spCell K) := by
  refine N.fu.okB sc__law_cell_at (fun vs H Q E h => ?_) (fun cdv A outer s H vs Q E hr h => ?_)
  · obtain ⟨a, ns, k, rfl, _⟩ := h
    rfl
  · obtain ⟨a, ns, k, rfl, hS, q⟩ := h
    refine ⟨_, (bss_cons (bs_if (bt_cmp o_lt (bv 1) (b_b c_len T.b_len (by kernel_rfl) (ba_c (bv 0) ba_nil rfl)) (nomark _))
      (bss_one (bs_ret (b_ix ix_seq (bv 0) (bv 1) (fun _ _ => rfl))))
      bss_nil)
    (bss_one (bs_ret b_int))), ?_⟩
    kas_types
    lcg_off
    refine ite_dec (fun h1 => ?_) (fun h1 => ?_)
    · rw [List.length_map] at h1
      have hk : k < ns.length := by omega
      lcg_off
      refine rd_ixL hS (atI_nat (v := .int (ns.getD k 0)) ?_) q
      rw [List.getElem?_map, List.getElem?_eq_getElem hk, List.getD_eq_getElem?_getD, List.getElem?_eq_getElem hk]
      rfl
    · rw [List.length_map] at h1
      have e : ns.getD k 0 = 0 := by
        rw [List.getD_eq_getElem?_getD, List.getElem?_eq_none (by omega)]
        rfl
      rw [e] at q
      lcg_off
      exact q
theorem cell_use {K : PySem.W.Frag} {H : Hp} {Q : VK} {E : XK} {a : Addr} {ns : List Int} {i : Int} {k : Nat} (hS : SqL K H a (ns.map V.int)) (hi : i = (k : Int)) (q : Q (.int (ns.getD k 0)) H) : spCell K [.ref a, .int i] H Q E := ⟨a, ns, k, by rw [hi], hS, q⟩
theorem la (x y : Str) : (x ++ y).length = x.length + y.length := by rw [len_list, app_list, List.length_append, ← len_list, ← len_list]
def spStream : Sp := fun vs H Q _ => ∃ c m : Int, vs = [.int c, .int m] ∧ 0 ≤ m ∧ m ≤ 5000 ∧ ∀ p H' (ns : List Int), H p = none → Same H H' → H' p = some (.lst (ns.map V.int)) → ns.length = m.toNat → (∀ n ∈ ns, 0 ≤ n) → Q (.ref p) H'
theorem sc__law_stream : FnScope ["_law_cell", "_law_many", "_law_found_here", "_law_number", "_law_k"] ["_law_cell", "_law_many"] (defScope s__law_stream) := ⟨rfl, rfl, rfl, by decide +kernel, rfl, by decide +kernel, by decide +kernel⟩
theorem ok__law_stream (T : Txt K mg) {f : Addr} {fd : FuncData} (N : Fn K mg "_law_stream" s__law_stream ["_law_cell", "_law_many"] f fd) : FnOk P w K mg base CX0 (1) f fd ["_law_cell", "_law_many"] (spStream) := by
  refine N.fu.okB sc__law_stream (fun vs H Q E h => ?_) (fun cdv A outer s H vs Q E hr h => ?_)
  · obtain ⟨c, m, rfl, _⟩ := h
    rfl
  · obtain ⟨c, m, rfl, h0, hm, q⟩ := h
    refine ⟨_, (bss_cons (bs_set (i := 2) sc__law_stream.nd rfl (by first | exact Or.inl rfl | exact Or.inr rfl) (b_lst ba_nil))
    (bss_cons (bs_set (i := 3) sc__law_stream.nd rfl (by first | exact Or.inl rfl | exact Or.inr rfl) (b_op op_mod (b_op o_add (b_op o_mul (bv 0) b_int) b_int) b_int))
    (bss_cons (bs_for PassesOwn.never rfl (bi_r1 T.b_range (ba_c (bv 1) ba_nil rfl)) (bg_name (i := 4) sc__law_stream.nd rfl (by first | exact Or.inl rfl | exact Or.inr rfl))
      (bss_cons (bs_set (i := 3) sc__law_stream.nd rfl (by first | exact Or.inl rfl | exact Or.inr rfl) (b_op op_mod (b_op o_add (b_op o_add (b_op o_mul (bv 3) b_int) b_int) (bv 4)) b_int))
    (bss_one (bs_expr (bm_append (bv 2) (ba_c (b_op op_fdiv (bv 3) b_int) ba_nil rfl))))))
    (bss_one (bs_ret (bv 2)))))), ?_⟩
    kas_types
    lcg_off
    rename_i l Hl hl0 sl hl
    refine forR (fun i σ H' => ∃ (ns : List Int) (nb : Int) (o : Option V), σ = [some (.int c), some (.int m), some (.ref l), some (.int nb), o] ∧ Same H H' ∧ H' l = some (.lst (ns.map V.int)) ∧ ns.length = i ∧ (∀ n ∈ ns, 0 ≤ n))
      ⟨[], _, none, rfl, sl, hl, rfl, fun n hn => (nomatch hn)⟩ (fun i σ H' hi h => ?_) (fun σ H' h => ?_)
    · obtain ⟨ns, nb, o, rfl, s1, hx, hlen, hpos⟩ := h
      lcg_off
      refine rd_append hx (by rw [List.length_map, hlen, sizeLine_eq]; omega) ?_
      lcg_off
      refine ⟨ns ++ [(nb * 48271 + 11 + (0 + (i : Int))) % 2147483647 / 7], _, _, rfl, same_updL s1 hl0, ?_, ?_, ?_⟩
      · rw [upd_same, List.map_append]
        rfl
      · rw [List.length_append, hlen]
        rfl
      · intro n hn
        rcases List.mem_append.mp hn with h1 | h1
        · exact hpos n h1
        · rw [List.mem_singleton.mp h1]
          exact Int.ediv_nonneg (Int.emod_nonneg _ (by decide)) (by decide)
    · obtain ⟨ns, nb, o, rfl, s1, hx, hlen, hpos⟩ := h
      lcg_off
      exact q l H' ns hl0 s1 hx hlen hpos
theorem stream_use {H : Hp} {Q : VK} {E : XK} {c m : Int} (h0 : 0 ≤ m) (hm : m ≤ 5000) (q : ∀ p H' (ns : List Int), H p = none → Same H H' → H' p = some (.lst (ns.map V.int)) → ns.length = m.toNat → (∀ n ∈ ns, 0 ≤ n) → Q (.ref p) H') : spStream [.int c, .int m] H Q E := ⟨c, m, rfl, h0, hm, q⟩
def spSign : Sp := fun vs H Q _ => ∃ n : Int, vs = [.int n] ∧ ∀ ch : Nat, Q (.str ⟨#[ch]⟩) H
theorem sc__law_sign : FnScope ["_law_number", "_law_some"] ["_law_number"] (defScope s__law_sign) := ⟨rfl, rfl, rfl, by decide +kernel, rfl, by decide +kernel, by decide +kernel⟩
theorem ok__law_sign (T : Txt K mg) {f : Addr} {fd : FuncData} (N : Fn K mg "_law_sign" s__law_sign ["_law_number"] f fd) : FnOk P w K mg base CX0 (1) f fd ["_law_number"] (spSign) := by
  refine N.fu.okB sc__law_sign (fun vs H Q E h => ?_) (fun cdv A outer s H vs Q E hr h => ?_)
  · obtain ⟨n, rfl, _⟩ := h
    rfl
  · obtain ⟨n, rfl, q⟩ := h
    refine ⟨_, (bss_cons (bs_set (i := 1) sc__law_sign.nd rfl (by first | exact Or.inl rfl | exact Or.inr rfl) b_str)
    (bss_cons (bs_set (i := 1) sc__law_sign.nd rfl (by first | exact Or.inl rfl | exact Or.inr rfl) (b_op o_add (bv 1) b_str))
    (bss_one (bs_ret (b_ix ix_seq (bv 1) (b_op op_mod (bv 0) b_int) (fun _ _ => rfl)))))), ?_⟩
    kas_types
    lcg_off
    refine rd_addS (by decide +kernel) ?_
    lcg_off
    generalize hsome : (Str.ofString " !\"#$&'()*+,-./0123456789:;<=>?@ABCDEFGHIJKLMNOPQRSTUVWXYZ[\\]^_`" ++ Str.ofString "abcdefghijklmnopqrstuvwxyz{|}~") = sgn
    have hsl : sgn.length = 94 := by rw [← hsome]; decide +kernel
    obtain ⟨ch, hch, hmem⟩ := atI_get' (xs := sgn.cps.toList) (i := n % 94) (Int.emod_nonneg _ (by omega)) (by rw [← len_list, hsl]; exact Int.emod_lt_of_pos _ (by omega))
    refine rd_ixS (by rw [hsl, sizeLine_eq]; omega) hch ?_
    exact q ch
theorem sign_use {H : Hp} {Q : VK} {E : XK} {n : Int} (q : ∀ ch : Nat, Q (.str ⟨#[ch]⟩) H) : spSign [.int n] H Q E := ⟨n, rfl, q⟩
def spText : Sp := fun vs H Q _ => ∃ n l m : Int, vs = [.int n, .int l, .int m] ∧ 0 ≤ l ∧ l ≤ m ∧ m ≤ 1000 ∧ ∀ (z : Str) H', l ≤ (z.length : Int) → (z.length : Int) ≤ m → Same H H' → Q (.str z) H'
theorem sc__law_text : FnScope ["_law_number", "_law_least", "_law_most", "_law_size"] ["_law_number", "_law_least", "_law_most"] (defScope s__law_text) := ⟨rfl, rfl, rfl, by decide +kernel, rfl, by decide +kernel, by decide +kernel⟩
theorem ok__law_text (T : Txt K mg) {f : Addr} {fd : FuncData} (N : Fn K mg "_law_text" s__law_text ["_law_number", "_law_least", "_law_most"] f fd) : FnOk P w K mg base CX0 (2) f fd ["_law_number", "_law_least", "_law_most"] (spText) := by
  obtain ⟨_, _, N__law_sign⟩ := T.f__law_sign
  have G__law_sign := ok__law_sign (P := P) (w := w) (base := base) T N__law_sign 
  obtain ⟨_, _, N__law_stream⟩ := T.f__law_stream
  have G__law_stream := ok__law_stream (P := P) (w := w) (base := base) T N__law_stream 
  refine N.fu.okB sc__law_text (fun vs H Q E h => ?_) (fun cdv A outer s H vs Q E hr h => ?_)
  · obtain ⟨n, l, m, rfl, _⟩ := h
    rfl
  · obtain ⟨n, l, m, rfl, h0, hlm, hm, q⟩ := h
    refine ⟨_, (bss_cons (bs_set (i := 3) sc__law_text.nd rfl (by first | exact Or.inl rfl | exact Or.inr rfl) (b_op o_add (bv 1) (b_op op_mod (bv 0) (b_op op_sub (b_op o_add (bv 2) b_int) (bv 1)))))
    (bss_cons (bs_if (bt_cmp op_gt (b_op op_mod (b_op op_fdiv (bv 0) b_int) b_int) b_int (nomark _))
      (bss_one (bs_set (i := 3) sc__law_text.nd rfl (by first | exact Or.inl rfl | exact Or.inr rfl) (b_op o_add (bv 1) (b_op op_mod (bv 0) (b_b (c_min rfl) T.b_min (by kernel_rfl) (ba_c b_int (ba_c (b_op op_sub (b_op o_add (bv 2) b_int) (bv 1)) ba_nil rfl) rfl))))))
      bss_nil)
    (bss_one (bs_ret (bm_join b_str (ba_c (b_lc (x := "_law_one") (ix := []) (fv := []) (osc := defScope s__law_text) rfl ⟨rfl, by decide +kernel, by decide +kernel, by rfl, by decide +kernel, by decide +kernel, by decide +kernel⟩ (by rfl) (bi_list (b_f N__law_stream G__law_stream (hr.mono (by first | decide | omega)) (ba_c (b_op op_fdiv (bv 0) b_int) (ba_c (bv 3) ba_nil rfl) rfl))) (fun _ _ _ _ => bf_nil) (fun _ _ _ _ => (b_f N__law_sign G__law_sign (hr.mono (by first | decide | omega)) (ba_c (bv 0) ba_nil rfl)))) ba_nil rfl)))))), ?_⟩
    kas_types
    lcg_off
    refine ite_both (fun σ' H' => ∃ sz : Int, l ≤ sz ∧ sz ≤ m ∧ σ' = [some (.int n), some (.int l), some (.int m), some (.int sz)] ∧ H' = H) (fun σ' H' h => ?_) (fun h3 nx hx => ?_) (fun h3 nx hx => ?_)
    · obtain ⟨sz, g0, g1, rfl, rfl⟩ := h
      lcg_off
      refine ⟨rfl, ?_⟩
      lcg_off
      refine stream_use (by omega) (by omega) (fun ps Hs ns hp0 ss hs hlen hpos => ?_)
      lcg_off
      refine lcWl (xs := ns.map V.int) (fun i ys H' => Same Hs H' ∧ ∃ cs : List Nat, ys = (cs.map fun c => V.str ⟨#[c]⟩) ∧ cs.length = i) (by rw [List.length_map, hlen, sizeLine_eq]; omega) ⟨Same.refl _, [], rfl, rfl⟩ (fun i ys H' h => ⟨SqL.of (h.1 _ _ hs), by obtain ⟨_, cs, rfl, h2⟩ := h; rw [List.length_map, h2]⟩) (fun i v ys H' hv h => ?_) (fun ys p H' H1 h hp sp hl => ?_)
      · obtain ⟨sH, cs, rfl, h2⟩ := h
        rw [List.getElem?_map] at hv
        obtain ⟨x, hx, rfl⟩ := Option.map_eq_some_iff.mp hv
        lcg_off
        refine sign_use fun ch => ?_
        exact ⟨sH, cs ++ [ch], by rw [List.map_append]; rfl, by rw [List.length_append, h2]; rfl⟩
      · obtain ⟨sH, cs, rfl, h2⟩ := h
        rw [List.length_map] at h2
        lcg_off
        refine ⟨_, p, cs.map fun c => (⟨#[c]⟩ : Str), rfl, rfl, SqL.of (by rw [hl, List.map_map]; rfl), ?_, ?_⟩
        · rw [sum_one, List.length_map, show (Str.ofString "").length = 0 from rfl]
          omega
        · rw [join_one]
          have e : (⟨cs.toArray⟩ : Str).length = cs.length := by rw [len_list]
          refine q _ _ (by rw [e]; omega) (by rw [e]; omega) (by lcg_sub)
    · lcg_off
      obtain ⟨k, hk, k0, k1⟩ : ∃ k, min 4 (m + 1 - l) = k ∧ 0 < k ∧ k ≤ m + 1 - l := ⟨_, rfl, by omega, by omega⟩
      rw [hk]
      have b0 := Int.emod_nonneg n (show k ≠ 0 by omega)
      have b1 := Int.emod_lt_of_pos n k0
      exact hx _ _ ⟨_, by omega, by omega, rfl, rfl⟩
    · lcg_off
      have b0 := Int.emod_nonneg n (show m + 1 - l ≠ 0 by omega)
      have b1 := Int.emod_lt_of_pos n (show 0 < m + 1 - l by omega)
      exact hx _ _ ⟨_, by omega, by omega, rfl, rfl⟩
theorem text_use {H : Hp} {Q : VK} {E : XK} {n l m : Int} (h0 : 0 ≤ l) (h1 : l ≤ m) (h2 : m ≤ 1000) (q : ∀ (z : Str) H', l ≤ (z.length : Int) → (z.length : Int) ≤ m → Same H H' → Q (.str z) H') : spText [.int n, .int l, .int m] H Q E := ⟨n, l, m, rfl, h0, h1, h2, q⟩
end
section
variable {P : Program} {w : World} {K : PySem.W.Frag} {mg : Str → Option Value} {base : Heap}
def okT (z : Str) : Prop := z.length ≤ 100
theorem rd_slG {K : PySem.W.Frag} {H : Hp} {Q : VK} {x : Str} {lo hi : Option Int} (hx : x.length ≤ 5000) (h : Q (.str (Txt.slice x lo hi)) H) : rSlP K (.str x) lo hi H Q := rd_slS (by rw [sizeLine_eq]; omega) h
theorem rd_addG {K : PySem.W.Frag} {H : Hp} {Q : VK} {x y : Str} (hx : x.length + y.length ≤ 10000) (h : ∀ z : Str, z.length = x.length + y.length → Q (.str z) H) : rAddP K (.str x) (.str y) H Q := rd_addS (by rw [sizeLine_eq]; omega) (h _ (la x y))
def KeyI (H : Hp) (n m : Int) (b : Str) (l ps : Addr) (ns : List Int) (i : Nat) (σ : St) (G : Hp) : Prop := ∃ (ks : List Str) (o1 o2 o3 o4 : Option V), σ = [some (.int n), some (.int m), some (.str b), some (.ref l), o1, o2, o3, o4] ∧ Same H G ∧ G ps = some (.lst (ns.map V.int)) ∧ G l = some (.lst (ks.map V.str)) ∧ 1 ≤ ks.length ∧ ks.length ≤ i + 1 ∧ ∀ z ∈ ks, okT z
theorem KeyI.more {H G G' : Hp} {n m : Int} {b : Str} {l ps : Addr} {ns : List Int} {i : Nat} {ks : List Str} {o1 o2 o3 o4 : Option V} (hl : H l = none) (hne : ps ≠ l) (sG : Same H G) (hps : G ps = some (.lst (ns.map V.int))) (k1 : 1 ≤ ks.length) (k2 : ks.length ≤ i + 1) (hk : ∀ z ∈ ks, okT z) (s : Same G G') (z : Str) (hz : okT z) :
    KeyI H n m b l ps ns (i + 1) [some (.int n), some (.int m), some (.str b), some (.ref l), o1, o2, o3, o4] (upd G' l (.lst (ks.map V.str ++ [.str z]))) := by
  refine ⟨ks ++ [z], _, _, _, _, rfl, same_updL (sG.trans s) hl, by rw [upd_ne hne]; exact s _ _ hps, by rw [upd_same, List.map_append]; rfl, by rw [List.length_append]; omega, by rw [List.length_append]; simp only [List.length_cons, List.length_nil]; omega, fun y hy => ?_⟩
  rcases List.mem_append.mp hy with h | h
  · exact hk y h
  · rw [List.mem_singleton.mp h]; exact hz
def spKeys : Sp := fun vs H Q _ => ∃ n m : Int, vs = [.int n, .int m] ∧ 0 ≤ m ∧ m ≤ 50 ∧ ∀ p H' (ks : List Str), H p = none → Same H H' → H' p = some (.lst (ks.map V.str)) → 1 ≤ ks.length → ks.length ≤ 51 → (∀ z ∈ ks, okT z) → Q (.ref p) H'
theorem sc__law_keys : FnScope ["_law_number", "_law_many", "_law_base", "_law_found_here", "_law_one", "_law_at", "_law_way", "_law_sign_here"] ["_law_number", "_law_many"] (defScope s__law_keys) := ⟨rfl, rfl, rfl, by decide +kernel, rfl, by decide +kernel, by decide +kernel⟩
theorem ok__law_keys (T : Txt K mg) {f : Addr} {fd : FuncData} (N : Fn K mg "_law_keys" s__law_keys ["_law_number", "_law_many"] f fd) : FnOk P w K mg base CX0 (3) f fd ["_law_number", "_law_many"] (spKeys) := by
  obtain ⟨_, _, N__law_text⟩ := T.f__law_text
  have G__law_text := ok__law_text (P := P) (w := w) (base := base) T N__law_text 
  obtain ⟨_, _, N__law_stream⟩ := T.f__law_stream
  have G__law_stream := ok__law_stream (P := P) (w := w) (base := base) T N__law_stream 
  obtain ⟨_, _, N__law_sign⟩ := T.f__law_sign
  have G__law_sign := ok__law_sign (P := P) (w := w) (base := base) T N__law_sign 
  refine N.fu.okB sc__law_keys (fun vs H Q E h => ?_) (fun cdv A outer s H vs Q E hr h => ?_)
  · obtain ⟨n, m, rfl, _⟩ := h
    rfl
  · obtain ⟨n, m, rfl, h0, hm, q⟩ := h
    refine ⟨_, (bss_cons (bs_set (i := 2) sc__law_keys.nd rfl (by first | exact Or.inl rfl | exact Or.inr rfl) (b_f N__law_text G__law_text (hr.mono (by first | decide | omega)) (ba_c (bv 0) (ba_c b_int (ba_c b_int ba_nil rfl) rfl) rfl)))
    (bss_cons (bs_set (i := 3) sc__law_keys.nd rfl (by first | exact Or.inl rfl | exact Or.inr rfl) (b_lst (ba_c (bv 2) ba_nil rfl)))
    (bss_cons (bs_for PassesOwn.never rfl (bi_list (b_f N__law_stream G__law_stream (hr.mono (by first | decide | omega)) (ba_c (b_op op_fdiv (bv 0) b_int) (ba_c (bv 1) ba_nil rfl) rfl))) (bg_name (i := 4) sc__law_keys.nd rfl (by first | exact Or.inl rfl | exact Or.inr rfl))
      (bss_cons (bs_set (i := 5) sc__law_keys.nd rfl (by first | exact Or.inl rfl | exact Or.inr rfl) (b_op op_mod (bv 4) (b_op o_add (b_b c_len T.b_len (by kernel_rfl) (ba_c (bv 2) ba_nil rfl)) b_int)))
    (bss_cons (bs_set (i := 6) sc__law_keys.nd rfl (by first | exact Or.inl rfl | exact Or.inr rfl) (b_op op_mod (b_op op_fdiv (bv 4) b_int) b_int))
    (bss_cons (bs_set (i := 7) sc__law_keys.nd rfl (by first | exact Or.inl rfl | exact Or.inr rfl) (b_f N__law_sign G__law_sign (hr.mono (by first | decide | omega)) (ba_c (b_op op_fdiv (bv 4) b_int) ba_nil rfl)))
    (bss_one (bs_if (bt_w (bw_and (bt_cmp (o_eqD (room100 hr)) (bv 6) b_int (nomark _)) (bw_and1 (bt_cmp o_lt (b_b c_len T.b_len (by kernel_rfl) (ba_c (bv 2) ba_nil rfl)) b_int (nomark _)))))
      (bss_one (bs_expr (bm_append (bv 3) (ba_c (b_op o_add (b_op o_add (b_slice s_any (bv 2) bo_none (bo_some (bv 5))) (bv 7)) (b_slice s_any (bv 2) (bo_some (bv 5)) bo_none)) ba_nil rfl))))
      (bss_one (bs_if (bt_cmp (o_eqD (room100 hr)) (bv 6) b_int (nomark _))
      (bss_one (bs_expr (bm_append (bv 3) (ba_c (b_slice s_any (b_op o_add (b_op o_add (b_slice s_any (bv 2) bo_none (bo_some (bv 5))) (bv 7)) (b_slice s_any (bv 2) (bo_some (b_op o_add (bv 5) b_int)) bo_none)) bo_none (bo_some b_int)) ba_nil rfl))))
      (bss_one (bs_if (bt_cmp (o_eqD (room100 hr)) (bv 6) b_int (nomark _))
      (bss_one (bs_expr (bm_append (bv 3) (ba_c (b_orS (b_slice s_any (bv 2) bo_none (bo_some (bv 5))) (b_one (bv 7))) ba_nil rfl))))
      (bss_one (bs_expr (bm_append (bv 3) (ba_c (b_f N__law_text G__law_text (hr.mono (by first | decide | omega)) (ba_c (b_op op_fdiv (bv 4) b_int) (ba_c b_int (ba_c b_int ba_nil rfl) rfl) rfl)) ba_nil rfl))))))))))))))
    (bss_one (bs_ret (bv 3)))))), ?_⟩
    kas_types
    lcg_off
    refine text_use (by decide) (by decide) (by decide) (fun b H1 b0 b1 s1 => ?_)
    have hb : b.length ≤ sizeLine := by rw [sizeLine_eq]; omega
    have sl : ∀ lo hi, (Txt.slice b lo hi).length ≤ 20 := fun lo hi => by have := Txt.slice_le b lo hi; omega
    lcg_off
    rename_i l Hl hl0 sl1 hl
    refine stream_use (by omega) (by omega) (fun ps Hs ns hp0 ss hs hlen hpos => ?_)
    have hlH : H l = none := s1.free hl0
    have hne : ps ≠ l := fun e => by rw [e, hl] at hp0; cases hp0
    lcg_off
    refine forL (xs := ns.map V.int) (KeyI H n m b l ps ns) ⟨[b], none, none, none, none, rfl, by lcg_sub, hs, ss _ _ hl, Nat.le_refl _, Nat.le_refl _, fun z hz => by rw [List.mem_singleton.mp hz]; unfold okT; omega⟩ (fun i σ G h => by obtain ⟨_, _, _, _, _, rfl, _, h, _⟩ := h; exact SqL.of h) (fun i x σ G hi hx h => ?_) (fun σ G h => ?_)
    · obtain ⟨ks, o1, o2, o3, o4, rfl, sG, hps, hG, k1, k2, hk⟩ := h
      rw [List.length_map, hlen] at hi
      rw [List.getElem?_map] at hx
      obtain ⟨nn, hn, rfl⟩ := Option.map_eq_some_iff.mp hx
      have hkl : (ks.map V.str).length < sizeLine := by rw [List.length_map, sizeLine_eq]; omega
      have one : ∀ ch : Nat, (⟨#[ch]⟩ : Str).length = 1 := fun ch => rfl
      lcg_off
      refine sign_use fun ch => ?_
      lcg_off
      refine ite_dec (fun w0 => ?_) (fun w0 => ?_)
      · lcg_off
        refine ite_dec (fun w1 => ?_) (fun w1 => ?_)
        · lcg_off
          refine rd_slG (by omega) ?_
          lcg_off
          refine rd_addG (by have := sl none (some (nn % ((b.length : Int) + 1))); rw [one]; omega) (fun z1 hz1 => ?_)
          lcg_off
          refine rd_slG (by omega) ?_
          lcg_off
          have l1 := sl none (some (nn % ((b.length : Int) + 1)))
          have l2 := sl (some (nn % ((b.length : Int) + 1))) none
          rw [one] at hz1
          refine rd_addG (by omega) (fun z2 hz2 => ?_)
          lcg_off
          refine rd_append hG hkl ?_
          lcg_off
          exact KeyI.more hlH hne sG hps k1 k2 hk (Same.refl _) z2 (by unfold okT; omega)
        · lcg_off
          refine ite_dec (fun w2 => ?_) (fun w2 => ?_)
          · lcg_off
            refine rd_slG (by omega) ?_
            lcg_off
            have l1 := sl none (some (nn % ((b.length : Int) + 1)))
            have l2 := sl (some (nn % ((b.length : Int) + 1) + 1)) none
            refine rd_addG (by rw [one]; omega) (fun z1 hz1 => ?_)
            rw [one] at hz1
            lcg_off
            refine rd_slG (by omega) ?_
            lcg_off
            refine rd_addG (by omega) (fun z2 hz2 => ?_)
            lcg_off
            refine rd_slG (by omega) ?_
            lcg_off
            refine rd_append hG hkl ?_
            lcg_off
            exact KeyI.more hlH hne sG hps k1 k2 hk (Same.refl _) _ (by have := Txt.slice_le z2 none (some 20); unfold okT; omega)
          · lcg_off
            refine ite_dec (fun w3 => ?_) (fun w3 => ?_)
            · lcg_off
              refine rd_slG (by omega) ?_
              have l1 := sl none (some (nn % ((b.length : Int) + 1)))
              refine ⟨_, rfl, by omega, fun y => ?_, fun y => ?_⟩
              · lcg_off
                refine rd_append hG hkl ?_
                lcg_off
                exact KeyI.more hlH hne sG hps k1 k2 hk (Same.refl _) _ (by unfold okT; omega)
              · lcg_off
                refine rd_append hG hkl ?_
                lcg_off
                exact KeyI.more hlH hne sG hps k1 k2 hk (Same.refl _) _ (by unfold okT; rw [one]; omega)
            · lcg_off
              refine text_use (by decide) (by decide) (by decide) (fun z G2 z0 z1 s2 => ?_)
              lcg_off
              refine rd_append (s2 _ _ hG) hkl ?_
              lcg_off
              exact KeyI.more hlH hne sG hps k1 k2 hk s2 z (by unfold okT; omega)
      · rw [if_neg (by simp)]
        lcg_off
        refine ite_dec (fun w2 => ?_) (fun w2 => ?_)
        · lcg_off
          refine rd_slG (by omega) ?_
          lcg_off
          have l1 := sl none (some (nn % ((b.length : Int) + 1)))
          have l2 := sl (some (nn % ((b.length : Int) + 1) + 1)) none
          refine rd_addG (by rw [one]; omega) (fun z1 hz1 => ?_)
          rw [one] at hz1
          lcg_off
          refine rd_slG (by omega) ?_
          lcg_off
          refine rd_addG (by omega) (fun z2 hz2 => ?_)
          lcg_off
          refine rd_slG (by omega) ?_
          lcg_off
          refine rd_append hG hkl ?_
          lcg_off
          exact KeyI.more hlH hne sG hps k1 k2 hk (Same.refl _) _ (by have := Txt.slice_le z2 none (some 20); unfold okT; omega)
        · lcg_off
          refine ite_dec (fun w3 => ?_) (fun w3 => ?_)
          · lcg_off
            refine rd_slG (by omega) ?_
            have l1 := sl none (some (nn % ((b.length : Int) + 1)))
            refine ⟨_, rfl, by omega, fun y => ?_, fun y => ?_⟩
            · lcg_off
              refine rd_append hG hkl ?_
              lcg_off
              exact KeyI.more hlH hne sG hps k1 k2 hk (Same.refl _) _ (by unfold okT; omega)
            · lcg_off
              refine rd_append hG hkl ?_
              lcg_off
              exact KeyI.more hlH hne sG hps k1 k2 hk (Same.refl _) _ (by unfold okT; rw [one]; omega)
          · lcg_off
            refine text_use (by decide) (by decide) (by decide) (fun z G2 z0 z1 s2 => ?_)
            lcg_off
            refine rd_append (s2 _ _ hG) hkl ?_
            lcg_off
            exact KeyI.more hlH hne sG hps k1 k2 hk s2 z (by unfold okT; omega)
    · obtain ⟨ks, o1, o2, o3, o4, rfl, sG, hps, hG, k1, k2, hk⟩ := h
      lcg_off
      rw [List.length_map] at k2
      exact q l G ks hlH sG hG k1 (by omega) hk
theorem keys_use {H : Hp} {Q : VK} {E : XK} {n m : Int} (h0 : 0 ≤ m) (hm : m ≤ 50) (q : ∀ p H' (ks : List Str), H p = none → Same H H' → H' p = some (.lst (ks.map V.str)) → 1 ≤ ks.length → ks.length ≤ 51 → (∀ z ∈ ks, okT z) → Q (.ref p) H') : spKeys [.int n, .int m] H Q E := ⟨n, m, rfl, h0, hm, q⟩
end
section
variable {P : Program} {w : World} {K : PySem.W.Frag} {mg : Str → Option Value} {base : Heap}
abbrev Ent := Str × Int × Option Str
def oD : Option Str → D
  | none => .non
  | some z => .str z
def entD (e : Ent) : D := .tup [.str e.1, .int e.2.1, oD e.2.2]
def rkE (e : Ent) : RK := (e.1, -e.2.1)
theorem ent_at {H : Hp} {e : Ent} {v : V} (h : Rep H (entD e) v) : ∃ a x, v = .ref a ∧ H a = some (.tup [.str e.1, .int e.2.1, x]) ∧ Rep H (oD e.2.2) x := by
  unfold entD at h
  simp only [Rep, Reps] at h
  obtain ⟨a, vs, rfl, ha, v1, r1, rfl, rfl, v2, r2, rfl, rfl, v3, r3, rfl, h3, rfl⟩ := h
  exact ⟨a, v3, rfl, ha, h3⟩
theorem mk_ent {H : Hp} {e : Ent} {a : Addr} {x : V} (ha : H a = some (.tup [.str e.1, .int e.2.1, x])) (hx : Rep H (oD e.2.2) x) : Rep H (entD e) (.ref a) := by
  unfold entD
  simp only [Rep, Reps]
  exact ⟨a, _, rfl, ha, _, _, rfl, rfl, _, _, rfl, rfl, _, _, rfl, hx, rfl⟩
def Tups (H H' : Hp) : Prop := ∀ b xs, H b = some (.tup xs) → H' b = some (.tup xs)
theorem oD_any {H H' : Hp} {o : Option Str} {x : V} (h : Rep H (oD o) x) : Rep H' (oD o) x := by
  cases o with
  | none => simp only [oD, Rep] at h ⊢; exact h
  | some z => simp only [oD, Rep] at h ⊢; exact h
theorem ent_stay {H H' : Hp} {e : Ent} {v : V} (h : Rep H (entD e) v) (t : Tups H H') : Rep H' (entD e) v := by
  obtain ⟨a, x, rfl, ha, hx⟩ := ent_at h
  exact mk_ent (t _ _ ha) (oD_any hx)
theorem ents_stay {H H' : Hp} : ∀ {es : List Ent} {vs : List V}, Reps H (es.map entD) vs → Tups H H' → Reps H' (es.map entD) vs
  | [], _, h, _ => by simpa only [List.map_nil, Reps] using h
  | e :: es, vs, h, t => by
    simp only [List.map_cons, Reps] at h ⊢
    obtain ⟨v, r, rfl, h1, h2⟩ := h
    exact ⟨v, r, rfl, ent_stay h1 t, ents_stay h2 t⟩
theorem Tups.of {H H' : Hp} (s : Same H H') : Tups H H' := fun b xs e => s b _ e
theorem Tups.trans {H H' H'' : Hp} (s : Tups H H') (t : Tups H' H'') : Tups H H'' := fun b xs e => t b _ (s b _ e)
theorem Tups.upd {H : Hp} {l : Addr} {o : HO} (h : ∀ xs, H l ≠ some (.tup xs)) : Tups H (upd H l o) := fun b xs e => by rw [upd_ne (fun z => by rw [z] at e; exact h xs e)]; exact e
theorem Reps.snoc {H : Hp} : ∀ {ds : List D} {vs : List V} {d : D} {v : V}, Reps H ds vs → Rep H d v → Reps H (ds ++ [d]) (vs ++ [v])
  | [], vs, d, v, h, h' => by
    simp only [Reps] at h
    subst h
    simp only [List.nil_append, Reps]
    exact ⟨v, [], rfl, h', rfl⟩
  | e :: ds, vs, d, v, h, h' => by
    simp only [Reps] at h
    obtain ⟨u, r, rfl, h1, h2⟩ := h
    simp only [List.cons_append, Reps]
    exact ⟨u, r ++ [v], rfl, h1, Reps.snoc h2 h'⟩
theorem ite_t {p : Prop} [Decidable p] {A B : Prop} (h : p) (a : A) : if p then A else B := by rw [if_pos h]; exact a
theorem ite_f {p : Prop} [Decidable p] {A B : Prop} (h : ¬ p) (b : B) : if p then A else B := by rw [if_neg h]; exact b
def kfH (H : Hp) : V → RK
  | .ref a => match H a with
    | some (.tup (.str k :: .int s :: _)) => (k, -s)
    | _ => (⟨#[]⟩, 0)
  | _ => (⟨#[]⟩, 0)
theorem kf_at {H : Hp} {e : Ent} {v : V} (h : Rep H (entD e) v) : kfH H v = rkE e := by
  obtain ⟨a, x, rfl, ha, _⟩ := ent_at h
  unfold kfH
  dsimp only
  rw [ha]
  rfl
def Rises (es : List Ent) : Prop := es.Pairwise fun a b => ltRK (rkE a) (rkE b) = true
theorem reps_pairs {H : Hp} : ∀ {es : List Ent} {xs : List V}, Reps H (es.map entD) xs → ∃ L : List (Ent × V), L.map (·.1) = es ∧ L.map (·.2) = xs ∧ ∀ t ∈ L, Rep H (entD t.1) t.2
  | [], xs, h => by
    simp only [List.map_nil, Reps] at h
    subst h
    exact ⟨[], rfl, rfl, fun t h => (nomatch h)⟩
  | e :: es, xs, h => by
    simp only [List.map_cons, Reps] at h
    obtain ⟨v, r, rfl, h1, h2⟩ := h
    obtain ⟨L, l1, l2, l3⟩ := reps_pairs h2
    refine ⟨(e, v) :: L, by rw [List.map_cons, l1], by rw [List.map_cons, l2], fun t ht => ?_⟩
    rcases List.mem_cons.mp ht with rfl | ht
    · exact h1
    · exact l3 t ht
theorem pairs_reps {H : Hp} : ∀ {L : List (Ent × V)}, (∀ t ∈ L, Rep H (entD t.1) t.2) → Reps H ((L.map (·.1)).map entD) (L.map (·.2))
  | [], _ => by simp only [List.map_nil, Reps]
  | t :: L, h => by
    simp only [List.map_cons, Reps]
    exact ⟨_, _, rfl, h t List.mem_cons_self, pairs_reps fun u hu => h u (List.mem_cons_of_mem _ hu)⟩
theorem sort_ents {X : Cx} {H : Hp} {Q : VK} {pl fa : Addr} {xs : List V} {es : List Ent} (hl : SqL X.K H pl xs) (hes : Reps H (es.map entD) xs) (nd : (es.map rkE).Nodup) (hz : es.length < 100000) (hk : ∀ e v, Rep H (entD e) v → KRun X X.A.in1.in1 (.ref fa) H (kfH H) v)
    (q : ∀ xs' es' l H1, es'.Perm es → Rises es' → H l = none → Same H H1 → H1 l = some (.lst xs') → Reps H1 (es'.map entD) xs' → Q (.ref l) H1) : rSortK X [.ref pl] (.ref fa) H Q := by
  obtain ⟨L, l1, l2, l3⟩ := reps_pairs hes
  have ekf : ∀ {M : List (Ent × V)}, (∀ t ∈ M, Rep H (entD t.1) t.2) → (M.map (·.2)).map (kfH H) = (M.map (·.1)).map rkE := fun {M} h => by
    rw [List.map_map, List.map_map]
    exact List.map_congr_left fun t ht => kf_at (h t ht)
  refine ⟨pl, xs, kfH H, fa, rfl, rfl, hl, ?_, ?_, fun y hy => ?_, fun xs' l H1 pm ri hn s1 h1 => ?_⟩
  · rw [← l2, List.length_map]
    rw [← l1, List.length_map] at hz
    exact hz
  · rw [← l2, ekf l3, l1]
    exact nd
  · rw [← l2] at hy
    obtain ⟨t, ht, rfl⟩ := List.mem_map.mp hy
    exact hk t.1 t.2 (l3 t ht)
  · obtain ⟨L', p1, p2⟩ := perm_lift pm L l2.symm
    have l3' : ∀ t ∈ L', Rep H (entD t.1) t.2 := fun t ht => l3 t (p1.mem_iff.mp ht)
    refine q xs' (L'.map (·.1)) l H1 (by rw [← l1]; exact p1.map _) ?_ hn s1 h1 (by rw [p2]; exact pairs_reps fun t ht => (l3' t ht).same s1)
    unfold Rises
    unfold RisesK at ri
    rw [p2, List.pairwise_map] at ri
    rw [List.pairwise_map]
    exact ri.imp_of_mem fun {a b} ha hb h => by
      rw [kf_at (l3' a ha), kf_at (l3' b hb)] at h
      exact h
theorem rises_one {es fs : List Ent} (hp : es.Perm fs) (h1 : Rises es) (h2 : Rises fs) : es = fs := by
  refine List.Perm.eq_of_pairwise (le := fun a b => ltRK (rkE a) (rkE b) = true) (fun a b _ _ h h' => ?_) h1 h2 hp
  rw [ltRK_asy h] at h'
  cases h'
def spRow (K : PySem.W.Frag) : Sp := fun vs H Q _ => ∃ (p : Addr) (n : Int) (ks : List Str), vs = [.ref p, .int n] ∧ H p = some (.lst (ks.map V.str)) ∧ 1 ≤ ks.length ∧ ∀ v H' (e : Ent), Same H H' → Rep H' (entD e) v → e.1 ∈ ks → 1 ≤ e.2.1 → Q v H'
theorem sc__law_row : FnScope ["_law_keys_here", "_law_number", "_law_value", "_law_stamp"] ["_law_keys_here", "_law_number"] (defScope s__law_row) := ⟨rfl, rfl, rfl, by decide +kernel, rfl, by decide +kernel, by decide +kernel⟩
theorem ok__law_row (T : Txt K mg) {f : Addr} {fd : FuncData} (N : Fn K mg "_law_row" s__law_row ["_law_keys_here", "_law_number"] f fd) : FnOk P w K mg base CX0 (3) f fd ["_law_keys_here", "_law_number"] (spRow K) := by
  obtain ⟨_, _, N__law_text⟩ := T.f__law_text
  have G__law_text := ok__law_text (P := P) (w := w) (base := base) T N__law_text 
  refine N.fu.okB sc__law_row (fun vs H Q E h => ?_) (fun cdv A outer s H vs Q E hr h => ?_)
  · obtain ⟨p, n, ks, rfl, _⟩ := h
    rfl
  · obtain ⟨p, n, ks, rfl, hp, hk, q⟩ := h
    refine ⟨_, (bss_cons (bs_set (i := 2) sc__law_row.nd rfl (by first | exact Or.inl rfl | exact Or.inr rfl) b_non)
    (bss_cons (bs_if (bt_cmp op_gt (b_op op_mod (bv 1) b_int) b_int (nomark _))
      (bss_one (bs_set (i := 2) sc__law_row.nd rfl (by first | exact Or.inl rfl | exact Or.inr rfl) (b_f N__law_text G__law_text (hr.mono (by first | decide | omega)) (ba_c (b_op op_fdiv (bv 1) b_int) (ba_c b_int (ba_c b_int ba_nil rfl) rfl) rfl))))
      bss_nil)
    (bss_cons (bs_set (i := 3) sc__law_row.nd rfl (by first | exact Or.inl rfl | exact Or.inr rfl) (b_op o_add b_int (b_op op_mod (b_op op_fdiv (bv 1) b_int) b_int)))
    (bss_cons (bs_if (bt_cmp (o_eqD (room100 hr)) (b_op op_mod (b_op op_fdiv (bv 1) b_int) b_int) b_int (nomark _))
      (bss_one (bs_set (i := 3) sc__law_row.nd rfl (by first | exact Or.inl rfl | exact Or.inr rfl) (b_op o_add b_int (b_op op_mod (bv 1) (b_op op_pow b_int b_int)))))
      bss_nil)
    (bss_one (bs_ret (b_tup (ba_c (b_ix ix_seq (bv 0) (b_op op_mod (b_op op_fdiv (bv 1) b_int) (b_b c_len T.b_len (by kernel_rfl) (ba_c (bv 0) ba_nil rfl))) (fun _ _ => rfl)) (ba_c (bv 3) (ba_c (bv 2) ba_nil rfl) rfl) rfl)))))))), ?_⟩
    kas_types
    lcg_off
    refine ite_both (fun σ' H' => ∃ (o : Option Str) (x : V), Rep H' (oD o) x ∧ σ' = [some (.ref p), some (.int n), some x, none] ∧ Same H H') (fun σ' H' h => ?_) (fun h3 nx hx => ?_) (fun h3 nx hx => ?_)
    · obtain ⟨o, x, hx, rfl, s1⟩ := h
      lcg_off
      refine ite_both (fun σ' G => ∃ st : Int, 1 ≤ st ∧ σ' = [some (.ref p), some (.int n), some x, some (.int st)] ∧ G = H') (fun σ' G h => ?_) (fun h4 nx hx => ?_) (fun h4 nx hx => ?_)
      · obtain ⟨st, hst, rfl, rfl⟩ := h
        have hp1 := s1 _ _ hp
        lcg_off
        refine rd_mod (by rw [List.length_map]; omega) ?_
        lcg_off
        refine rd_pick (SqL.of hp1) (Int.emod_nonneg _ (by rw [List.length_map]; omega)) (Int.emod_lt_of_pos _ (by rw [List.length_map]; omega)) (fun u hu => ?_)
        obtain ⟨z, hz, rfl⟩ := List.mem_map.mp hu
        lcg_off
        rename_i r G1 s2 hr1
        exact q _ _ (z, st, o) (s1.trans s2) (mk_ent hr1 (oD_any hx)) hz hst
      · lcg_off
        have b0 := Int.emod_nonneg n (show (10 ^ 9 : Int) ≠ 0 by decide)
        exact hx _ _ ⟨_, by omega, rfl, rfl⟩
      · lcg_off
        exact hx _ _ ⟨_, by omega, rfl, rfl⟩
    · lcg_off
      refine text_use (by decide) (by decide) (by decide) (fun z G z0 z1 s1 => ?_)
      lcg_off
      exact hx _ _ ⟨some z, .str z, Rep.str', rfl, s1⟩
    · lcg_off
      exact hx _ _ ⟨none, .non, Rep.non', rfl, Same.refl _⟩
theorem row_use {K : PySem.W.Frag} {H : Hp} {Q : VK} {E : XK} {p : Addr} {n : Int} (ks : List Str) (hp : H p = some (.lst (ks.map V.str))) (hk : 1 ≤ ks.length) (q : ∀ v H' (e : Ent), Same H H' → Rep H' (entD e) v → e.1 ∈ ks → 1 ≤ e.2.1 → Q v H') : spRow K [.ref p, .int n] H Q E := ⟨p, n, ks, rfl, hp, hk, q⟩
def putE (rs : List Ent) (e : Ent) : List Ent := rs.filter (fun r => !decide (rkE r = rkE e)) ++ [e]
theorem pairEq {a b : Str} {s t : Int} : pyEq (.tup [.str a, .int s]) (.tup [.str b, .int t]) = decide (((a, -s) : RK) = (b, -t)) := by
  simp only [pyEq, pyEqs]
  by_cases h1 : a = b
  · by_cases h2 : s = t
    · simp [h1, h2]
    · have : ¬ (-s = -t) := by omega
      simp [h1, h2, this]
  · simp [h1]
def spPut (K : PySem.W.Frag) : Sp := fun vs H Q _ => ∃ (p : Addr) (v : V) (xs : List V) (rs : List Ent) (e : Ent), vs = [.ref p, v] ∧ H p = some (.lst xs) ∧ Reps H (rs.map entD) xs ∧ Rep H (entD e) v ∧ rs.length < 1000 ∧ ∀ l H1 ys, H l = none → Same H H1 → H1 l = some (.lst ys) → Reps H1 ((putE rs e).map entD) ys → Q (.ref l) H1
theorem sc__law_put : FnScope ["_law_rows", "_law_row_here"] ["_law_rows", "_law_row_here"] (defScope s__law_put) := ⟨rfl, rfl, rfl, by decide +kernel, rfl, by decide +kernel, by decide +kernel⟩
theorem ok__law_put (T : Txt K mg) {f : Addr} {fd : FuncData} (N : Fn K mg "_law_put" s__law_put ["_law_rows", "_law_row_here"] f fd) : FnOk P w K mg base CX0 (1) f fd ["_law_rows", "_law_row_here"] (spPut K) := by
  refine N.fu.okB sc__law_put (fun vs H Q E h => ?_) (fun cdv A outer s H vs Q E hr h => ?_)
  · obtain ⟨p, v, xs, rs, e, rfl, _⟩ := h
    rfl
  · obtain ⟨p, v, xs, rs, e, rfl, hp, hrs, hv, hz, q⟩ := h
    obtain ⟨L, l1, l2, l3⟩ := reps_pairs hrs
    have hxl : xs.length = rs.length := by rw [← l1, ← l2, List.length_map, List.length_map]
    obtain ⟨cv, xv, rfl, hcv, hxv⟩ := ent_at hv
    refine ⟨_, (bss_one (bs_ret (b_op o_add (b_lc (x := "_law_one") (ix := [1]) (fv := ["_law_row_here"]) (osc := defScope s__law_put) rfl ⟨rfl, by decide +kernel, by decide +kernel, by rfl, by decide +kernel, by decide +kernel, by decide +kernel⟩ (by rfl) (bi_list (bv 0)) (fun _ _ _ _ => (bf_one (bt_cmp (o_neD (room100 hr)) (b_slice (s_anyK (K := K) rfl) (bv 0) bo_none (bo_some b_int)) (b_slice (s_anyK (K := K) rfl) (bv 1) bo_none (bo_some b_int)) (nomark _)))) (fun _ _ _ _ => (bv 0))) (b_lst (ba_c (bv 1) ba_nil rfl))))), ?_⟩
    kas_types
    lcg_off
    refine lcWf (xs := xs) (fun i us F => Same H F ∧ Reps F (((rs.take i).filter (fun r => !decide (rkE r = rkE e))).map entD) us ∧ us.length ≤ i) (by rw [hxl, sizeLine_eq]; omega) ⟨Same.refl _, by simp only [List.take_zero, List.filter_nil, List.map_nil, Reps], Nat.le_refl _⟩ (fun i us F h => ⟨SqL.of (h.1 _ _ hp), h.2.2⟩) (fun i v us F hv' h => ?_) (fun us pm_ F F1 h hpm sF hF => ?_)
    · obtain ⟨f1, f2, f3⟩ := h
      rw [← l2, List.getElem?_map] at hv'
      obtain ⟨te, hte, rfl⟩ := Option.map_eq_some_iff.mp hv'
      have hei : rs[i]? = some te.1 := by rw [← l1, List.getElem?_map, hte]; rfl
      obtain ⟨hil, hie⟩ := List.getElem?_eq_some_iff.mp hei
      have hrep := (l3 te (List.mem_of_getElem? hte)).same f1
      obtain ⟨c, x, ec, hc, hx⟩ := ent_at hrep
      rw [ec] at hrep
      rw [ec]
      have hcv1 := f1 _ _ hcv
      have ht1 : (rs.take (i + 1)).filter (fun r => !decide (rkE r = rkE e)) = (rs.take i).filter (fun r => !decide (rkE r = rkE e)) ++ if (!decide (rkE te.1 = rkE e)) = true then [te.1] else [] := by rw [List.take_succ_eq_append_getElem hil, hie, List.filter_append]; cases h : (!decide (rkE te.1 = rkE e)) <;> simp only [List.filter_cons, List.filter_nil, h, if_true, if_false, Bool.false_eq_true]
      lcg_off
      rename_i q1 G1 g1 h1 q2 G2 g2 h2
      refine ⟨.tup [.str te.1.1, .int te.1.2.1], .tup [.str e.1, .int e.2.1], by keq_rows, by keq_rows, by simp [D.dep, D.deps], by simp [D.dep, D.deps], ?_⟩
      have s12 : Same F G2 := g1.trans g2
      rw [pairEq]
      change ∃ k, V.bl (!decide (rkE te.1 = rkE e)) = V.bl k ∧ _
      refine ⟨_, rfl, ?_⟩
      rw [ht1]
      cases hd : (!decide (rkE te.1 = rkE e)) with
      | true =>
        rw [if_pos rfl, if_pos rfl]
        lcg_off
        refine ⟨f1.trans s12, ?_, by rw [List.length_append]; simp; omega⟩
        rw [List.map_append]
        exact Reps.snoc (f2.same s12) (hrep.same s12)
      | false =>
        rw [if_neg (by simp), if_neg (by simp), List.append_nil]
        exact ⟨f1.trans s12, f2.same s12, by omega⟩
    · obtain ⟨f1, f2, f3⟩ := h
      rw [hxl, List.take_length] at f2
      lcg_off
      rename_i q1 G1 n1 g1 h1 q2 G2 n2 g2 h2
      have s12 : Same F G2 := (sF.trans g1).trans g2
      refine q _ _ _ (f1.free (sF.free (g1.free n2))) (f1.trans s12) h2 ?_
      unfold putE
      rw [List.map_append]
      exact Reps.snoc (f2.same s12) ((hv.same f1).same s12)
theorem put_use {K : PySem.W.Frag} {H : Hp} {Q : VK} {E : XK} {p : Addr} {v : V} {xs : List V} (rs : List Ent) (e : Ent) (hp : H p = some (.lst xs)) (hrs : Reps H (rs.map entD) xs) (hv : Rep H (entD e) v) (hz : rs.length < 1000) (q : ∀ l H1 ys, H l = none → Same H H1 → H1 l = some (.lst ys) → Reps H1 ((putE rs e).map entD) ys → Q (.ref l) H1) : spPut K [.ref p, v] H Q E := ⟨p, v, xs, rs, e, rfl, hp, hrs, hv, hz, q⟩
end
section
variable {P : Program} {w : World} {K : PySem.W.Frag} {mg : Str → Option Value} {base : Heap}
theorem reps_ins {H : Hp} : ∀ {k : Nat} {ds : List D} {vs : List V} {d : D} {v : V}, Reps H ds vs → Rep H d v → Reps H (insL k d ds) (insL k v vs)
  | 0, ds, vs, d, v, h, h' => Reps.cons' h' h
  | k + 1, [], vs, d, v, h, h' => by
    simp only [Reps] at h
    subst h
    exact Reps.cons' h' Reps.nil'
  | k + 1, e :: ds, vs, d, v, h, h' => by
    simp only [Reps] at h
    obtain ⟨u, r, rfl, h1, h2⟩ := h
    exact Reps.cons' h1 (reps_ins (k := k) h2 h')
theorem map_insL {α β : Type} (f : α → β) (k : Nat) (y : α) (xs : List α) : (insL k y xs).map f = insL k (f y) (xs.map f) := by
  unfold insL
  rw [List.map_append, List.map_cons, List.map_take, List.map_drop]
theorem perm_insL {α : Type} (k : Nat) (y : α) (xs : List α) : (insL k y xs).Perm (y :: xs) := by
  unfold insL
  have := (List.perm_middle (a := y) (l₁ := xs.take k) (l₂ := xs.drop k))
  rwa [List.take_append_drop] at this
theorem rises_ins {fs : List Ent} {e : Ent} {k : Nat} (h : Rises fs) (h1 : ∀ x ∈ fs.take k, ltRK (rkE x) (rkE e) = true) (h2 : ∀ f, fs[k]? = some f → ltRK (rkE f) (rkE e) = false) (hn : ∀ f ∈ fs, rkE f ≠ rkE e) : Rises (insL k e fs) := by
  unfold insL Rises
  have h0 : (fs.take k ++ fs.drop k).Pairwise fun a b => ltRK (rkE a) (rkE b) = true := by rw [List.take_append_drop]; exact h
  obtain ⟨p1, p2, p3⟩ := List.pairwise_append.mp h0
  have hd : ∀ y ∈ fs.drop k, ltRK (rkE e) (rkE y) = true := by
    cases hk : fs.drop k with
    | nil => intro y hy; cases hy
    | cons f r =>
      have ef : fs[k]? = some f := by
        have := congrArg (fun l => l[0]?) hk
        simpa using this
      have h3 := ltRK_tot (hn f (List.mem_of_getElem? ef)) (h2 f ef)
      rw [hk] at p2
      intro y hy
      rcases List.mem_cons.mp hy with rfl | hy
      · exact h3
      · exact ltRK_trans h3 ((List.pairwise_cons.mp p2).1 y hy)
  refine List.pairwise_append.mpr ⟨p1, List.pairwise_cons.mpr ⟨hd, p2⟩, fun a ha b hb => ?_⟩
  rcases List.mem_cons.mp hb with rfl | hb
  · exact h1 a ha
  · exact p3 a ha b hb
theorem lt_same {e f : Ent} (h : e.1 = f.1) : ltRK (rkE e) (rkE f) = decide (-e.2.1 < -f.2.1) := if_pos h
theorem lt_other {e f : Ent} (h : ¬ e.1 = f.1) : ltRK (rkE e) (rkE f) = decide (e.1.cps.toList < f.1.cps.toList) := if_neg h
def spAhead : Sp := fun vs H Q _ => ∃ (v u : V) (e f : Ent), vs = [v, u] ∧ Rep H (entD e) v ∧ Rep H (entD f) u ∧ Q (.bl (ltRK (rkE e) (rkE f))) H
theorem sc__law_ahead : FnScope ["_law_one", "_law_other"] ["_law_one", "_law_other"] (defScope s__law_ahead) := ⟨rfl, rfl, rfl, by decide +kernel, rfl, by decide +kernel, by decide +kernel⟩
theorem ok__law_ahead (T : Txt K mg) {f : Addr} {fd : FuncData} (N : Fn K mg "_law_ahead" s__law_ahead ["_law_one", "_law_other"] f fd) : FnOk P w K mg base CX0 (1) f fd ["_law_one", "_law_other"] (spAhead) := by
  refine N.fu.okB sc__law_ahead (fun vs H Q E h => ?_) (fun cdv A outer s H vs Q E hr h => ?_)
  · obtain ⟨v, u, e, f, rfl, _⟩ := h
    rfl
  · obtain ⟨v, u, e, f, rfl, he, hf, q⟩ := h
    obtain ⟨a, x, rfl, ha, hx⟩ := ent_at he
    obtain ⟨b, y, rfl, hb, hy⟩ := ent_at hf
    refine ⟨_, (bss_cons (bs_if (bt_cmp (o_neD (room100 hr)) (b_ix ix_seq (bv 0) b_int (fun _ _ => rfl)) (b_ix ix_seq (bv 1) b_int (fun _ _ => rfl)) (nomark _))
      (bss_one (bs_ret (b_cmp o_lt (b_ix ix_seq (bv 0) b_int (fun _ _ => rfl)) (b_ix ix_seq (bv 1) b_int (fun _ _ => rfl)) (nomark _))))
      bss_nil)
    (bss_one (bs_ret (b_cmp op_gt (b_ix ix_seq (bv 0) b_int (fun _ _ => rfl)) (b_ix ix_seq (bv 1) b_int (fun _ _ => rfl)) (nomark _))))), ?_⟩
    kas_types
    lcg_off
    by_cases e1 : e.1 = f.1
    · rw [lt_same e1] at q
      refine ite_f (by simp [e1]) ?_
      lcg_off
      rw [show decide (f.2.1 < e.2.1) = decide (-e.2.1 < -f.2.1) by rw [decide_eq_decide]; omega]
      exact q
    · rw [lt_other e1] at q
      refine ite_t (by simp [e1]) ?_
      lcg_off
      exact q
theorem ahead_use {H : Hp} {Q : VK} {E : XK} {v u : V} (e f : Ent) (h1 : Rep H (entD e) v) (h2 : Rep H (entD f) u) (q : Q (.bl (ltRK (rkE e) (rkE f))) H) : spAhead [v, u] H Q E := ⟨v, u, e, f, rfl, h1, h2, q⟩
def spOrd (K : PySem.W.Frag) : Sp := fun vs H Q _ => ∃ (p : Addr) (xs : List V) (rs : List Ent), vs = [.ref p] ∧ H p = some (.lst xs) ∧ Reps H (rs.map entD) xs ∧ (rs.map rkE).Nodup ∧ rs.length < 1000 ∧ ∀ ys fs l H1, fs.Perm rs → Rises fs → H l = none → Same H H1 → H1 l = some (.lst ys) → Reps H1 (fs.map entD) ys → Q (.ref l) H1
theorem sc__law_in_order : FnScope ["_law_rows", "_law_found_here", "_law_row_here", "_law_at"] ["_law_rows"] (defScope s__law_in_order) := ⟨rfl, rfl, rfl, by decide +kernel, rfl, by decide +kernel, by decide +kernel⟩
theorem ok__law_in_order (T : Txt K mg) {f : Addr} {fd : FuncData} (N : Fn K mg "_law_in_order" s__law_in_order ["_law_rows"] f fd) : FnOk P w K mg base CX0 (2) f fd ["_law_rows"] (spOrd K) := by
  obtain ⟨_, _, N__law_ahead⟩ := T.f__law_ahead
  have G__law_ahead := ok__law_ahead (P := P) (w := w) (base := base) T N__law_ahead 
  refine N.fu.okB sc__law_in_order (fun vs H Q E h => ?_) (fun cdv A outer s H vs Q E hr h => ?_)
  · obtain ⟨p, xs, rs, rfl, _⟩ := h
    rfl
  · obtain ⟨p, xs, rs, rfl, hp, hrs, nd, hz, q⟩ := h
    obtain ⟨L, l1, l2, l3⟩ := reps_pairs hrs
    have hxl : xs.length = rs.length := by rw [← l1, ← l2, List.length_map, List.length_map]
    refine ⟨_, (bss_cons (bs_set (i := 1) sc__law_in_order.nd rfl (by first | exact Or.inl rfl | exact Or.inr rfl) (b_lst ba_nil))
    (bss_cons (bs_for PassesOwn.never rfl (bi_list (bv 0)) (bg_name (i := 2) sc__law_in_order.nd rfl (by first | exact Or.inl rfl | exact Or.inr rfl))
      (bss_cons (bs_set (i := 3) sc__law_in_order.nd rfl (by first | exact Or.inl rfl | exact Or.inr rfl) b_int)
    (bss_cons (bs_while PassesOwn.never (bt_w (bw_and (bt_cmp o_lt (bv 3) (b_b c_len T.b_len (by kernel_rfl) (ba_c (bv 1) ba_nil rfl)) (nomark _)) (bw_and1 (bt_val (b_f N__law_ahead G__law_ahead (hr.mono (by first | decide | omega)) (ba_c (b_ix ix_seq (bv 1) (bv 3) (fun _ _ => rfl)) (ba_c (bv 2) ba_nil rfl) rfl)) (fun _ => rfl)))))
      (bss_one (bs_set (i := 3) sc__law_in_order.nd rfl (by first | exact Or.inl rfl | exact Or.inr rfl) (b_op o_add (bv 3) b_int))))
    (bss_one (bs_expr (bm_insert (bv 1) (ba_c (bv 3) (ba_c (bv 2) ba_nil rfl) rfl)))))))
    (bss_one (bs_ret (bv 1))))), ?_⟩
    kas_types
    lcg_off
    rename_i l Hl hl0 sl hl
    refine forL (xs := xs) (fun i σ G => ∃ (ys : List V) (fs : List Ent) (o1 o2 : Option V), σ = [some (.ref p), some (.ref l), o1, o2] ∧ Same H G ∧ G l = some (.lst ys) ∧ Reps G (fs.map entD) ys ∧ fs.Perm (rs.take i) ∧ Rises fs) ⟨[], [], none, none, rfl, sl, hl, Reps.nil', by rw [List.take_zero], List.Pairwise.nil⟩ (fun i σ G h => by obtain ⟨_, _, _, _, rfl, s1, _⟩ := h; exact SqL.of (s1 _ _ hp)) (fun i x σ G hi hx h => ?_) (fun σ G h => ?_)
    · obtain ⟨ys, fs, o1, o2, rfl, sG, hG, hys, pm, ri⟩ := h
      rw [← l2, List.getElem?_map] at hx
      obtain ⟨te, hte, rfl⟩ := Option.map_eq_some_iff.mp hx
      have hei : rs[i]? = some te.1 := by rw [← l1, List.getElem?_map, hte]; rfl
      obtain ⟨hil, hie⟩ := List.getElem?_eq_some_iff.mp hei
      have hrep := (l3 te (List.mem_of_getElem? hte)).same sG
      obtain ⟨M, m1, m2, m3⟩ := reps_pairs hys
      have hyl : ys.length = fs.length := by rw [← m1, ← m2, List.length_map, List.length_map]
      have ht1 : rs.take (i + 1) = rs.take i ++ [te.1] := by rw [List.take_succ_eq_append_getElem hil, hie]
      have hfl : fs.length = i := by rw [pm.length_eq, List.length_take]; omega
      have hn : ∀ f ∈ fs, rkE f ≠ rkE te.1 := fun f hf e => by
        have n1 : ((rs.take (i + 1)).map rkE).Nodup := nd.sublist ((List.take_sublist _ _).map rkE)
        rw [ht1, List.map_append] at n1
        obtain ⟨_, _, n2⟩ := List.nodup_append.mp n1
        exact n2 _ (List.mem_map.mpr ⟨f, pm.mem_iff.mp hf, rfl⟩) _ (List.mem_singleton.mpr rfl) e
      lcg_off
      refine whW (fun m σ F => ∃ k : Nat, σ = [some (.ref p), some (.ref l), some te.2, some (.int (k : Int))] ∧ F = G ∧ k + m = fs.length ∧ ∀ x ∈ fs.take k, ltRK (rkE x) (rkE te.1) = true) fs.length ⟨0, rfl, rfl, by omega, fun x hx => by rw [List.take_zero] at hx; cases hx⟩ (fun m σ F h => ?_)
      obtain ⟨k, rfl, rfl, hkm, hall⟩ := h
      have done : (∀ f, fs[k]? = some f → ltRK (rkE f) (rkE te.1) = false) → ∃ (ys' : List V) (fs' : List Ent) (o1 o2 : Option V), [some (.ref p), some (.ref l), some te.2, some (.int (k : Int))] = [some (.ref p), some (.ref l), o1, o2] ∧ Same H (upd F l (.lst (insL ((k : Int)).toNat te.2 ys))) ∧ upd F l (.lst (insL ((k : Int)).toNat te.2 ys)) l = some (.lst ys') ∧ Reps (upd F l (.lst (insL ((k : Int)).toNat te.2 ys))) (fs'.map entD) ys' ∧ fs'.Perm (rs.take (i + 1)) ∧ Rises fs' := fun hno => by
        have tu : Tups F (upd F l (.lst (insL ((k : Int)).toNat te.2 ys))) := Tups.upd (fun xs z => by rw [hG] at z; cases z)
        refine ⟨_, insL k te.1 fs, _, _, rfl, same_updL sG hl0, upd_same, ents_stay ?_ tu, ?_, rises_ins ri hall hno hn⟩
        · rw [map_insL, Int.toNat_natCast]
          exact reps_ins hys hrep
        · rw [ht1]
          exact ((perm_insL k te.1 fs).trans (pm.cons _)).trans (List.perm_append_comm (l₁ := [te.1]) (l₂ := rs.take i))
      lcg_off
      rw [hyl]
      refine ite_dec (fun h1 => ?_) (fun h1 => ?_)
      · have hk : k < fs.length := by omega
        have hky : k < ys.length := by omega
        lcg_off
        refine rd_ixL (SqL.of hG) (atI_nat (List.getElem?_eq_getElem hky)) ?_
        lcg_off
        have hfk : Rep F (entD fs[k]) ys[k] := by
          have a1 : M[k]? = some (fs[k], ys[k]) := by
            have hM : k < M.length := by rw [← m1, List.length_map] at hk; exact hk
            rw [List.getElem?_eq_getElem hM]
            have e1 : fs[k] = M[k].1 := by simp only [← m1, List.getElem_map]
            have e2 : ys[k] = M[k].2 := by simp only [← m2, List.getElem_map]
            rw [e1, e2]
          exact m3 _ (List.mem_of_getElem? a1)
        refine ahead_use fs[k] te.1 hfk hrep ?_
        cases hlt : ltRK (rkE fs[k]) (rkE te.1) with
        | true =>
          lcg_off
          refine ⟨fun σ' H' => σ' = [some (.ref p), some (.ref l), some te.2, some (.int ((k : Int) + 1))] ∧ H' = F, fun σ' H' h => ?_, ?_⟩
          · obtain ⟨rfl, rfl⟩ := h
            refine ⟨m - 1, by omega, k + 1, by simp, rfl, by omega, fun x hx => ?_⟩
            rw [List.take_succ_eq_append_getElem hk] at hx
            rcases List.mem_append.mp hx with hx | hx
            · exact hall x hx
            · rw [List.mem_singleton.mp hx]; exact hlt
          · lcg_off
            exact ⟨rfl, rfl⟩
        | false =>
          lcg_off
          refine rd_insert hG (by omega) (by omega) (by rw [sizeLine_eq]; omega) ?_
          lcg_off
          exact done fun f hf => by
            rw [List.getElem?_eq_getElem hk] at hf
            cases hf
            exact hlt
      · lcg_off
        refine rd_insert hG (by omega) (by omega) (by rw [sizeLine_eq]; omega) ?_
        lcg_off
        exact done fun f hf => by
          have := (List.getElem?_eq_some_iff.mp hf).1
          omega
    · obtain ⟨ys, fs, o1, o2, rfl, sG, hG, hys, pm, ri⟩ := h
      rw [hxl, List.take_length] at pm
      lcg_off
      exact q ys fs l G pm ri hl0 sG hG hys
theorem ord_use {K : PySem.W.Frag} {H : Hp} {Q : VK} {E : XK} {p : Addr} {xs : List V} (rs : List Ent) (hp : H p = some (.lst xs)) (hrs : Reps H (rs.map entD) xs) (nd : (rs.map rkE).Nodup) (hz : rs.length < 1000) (q : ∀ ys fs l H1, fs.Perm rs → Rises fs → H l = none → Same H H1 → H1 l = some (.lst ys) → Reps H1 (fs.map entD) ys → Q (.ref l) H1) : spOrd K [.ref p] H Q E := ⟨p, xs, rs, rfl, hp, hrs, nd, hz, q⟩
end
section
variable {P : Program} {w : World} {K : PySem.W.Frag} {mg : Str → Option Value} {base : Heap}
def newS (z : Str) (t : Int) (o : Option Ent) (e : Ent) : Option Ent := if (decide (e.1 = z) && decide (e.2.1 ≤ t) && (match o with | none => true | some f => decide (f.2.1 < e.2.1))) = true then some e else o
theorem newS_none {z : Str} {t : Int} {e : Ent} (h0 : e.1 = z) (h1 : e.2.1 ≤ t) : newS z t none e = some e := by simp [newS, h0, h1]
theorem newS_some {z : Str} {t : Int} {e f : Ent} (h0 : e.1 = z) (h1 : e.2.1 ≤ t) (h2 : f.2.1 < e.2.1) : newS z t (some f) e = some e := by simp [newS, h0, h1, h2]
theorem newS_key {z : Str} {t : Int} {o : Option Ent} {e : Ent} (h0 : ¬ e.1 = z) : newS z t o e = o := by simp [newS, h0]
theorem newS_st {z : Str} {t : Int} {o : Option Ent} {e : Ent} (h1 : ¬ e.2.1 ≤ t) : newS z t o e = o := by unfold newS; rw [decide_eq_false h1]; simp
theorem newS_old {z : Str} {t : Int} {e f : Ent} (h2 : ¬ f.2.1 < e.2.1) : newS z t (some f) e = some f := by unfold newS; exact if_neg (by simp [h2])
def newM (z : Str) (t : Int) (es : List Ent) : Option Ent := es.foldl (newS z t) none
theorem new_none {z : Str} {t : Int} {es : List Ent} (h : ∀ e ∈ es, e.1 ≠ z) : newM z t es = none := by
  unfold newM
  induction es with
  | nil => rfl
  | cons e r ih =>
    rw [List.foldl_cons, newS_key (h e List.mem_cons_self)]
    exact ih fun f hf => h f (List.mem_cons_of_mem _ hf)
def oE : Option Ent → L2.D
  | none => .non
  | some e => entD e
def spNewest (K : PySem.W.Frag) : Sp := fun vs H Q _ => ∃ (p : Addr) (z : Str) (t : Int) (xs : List V) (es : List Ent), vs = [.ref p, .str z, .int t] ∧ H p = some (.lst xs) ∧ Reps H (es.map entD) xs ∧ ∀ v, Rep H (oE (newM z t es)) v → Q v H
theorem sc_newest : FnScope ["entries", "key", "stamp", "found", "entry"] ["entries", "key", "stamp"] (defScope s_newest) := ⟨rfl, rfl, rfl, by decide +kernel, rfl, by decide +kernel, by decide +kernel⟩
theorem ok_newest (T : Txt K mg) {f : Addr} {fd : FuncData} (N : Fn K mg "newest" s_newest ["entries", "key", "stamp"] f fd) : FnOk P w K mg base CX0 (1) f fd ["entries", "key", "stamp"] (spNewest K) := by
  refine N.fu.okB sc_newest (fun vs H Q E h => ?_) (fun cdv A outer s H vs Q E hr h => ?_)
  · obtain ⟨p, z, t, xs, es, rfl, _⟩ := h
    rfl
  · obtain ⟨p, z, t, xs, es, rfl, hp, hes, q⟩ := h
    obtain ⟨L, l1, l2, l3⟩ := reps_pairs hes
    have hxl : xs.length = es.length := by rw [← l1, ← l2, List.length_map, List.length_map]
    refine ⟨_, (bss_cons (bs_set (i := 3) sc_newest.nd rfl (by first | exact Or.inl rfl | exact Or.inr rfl) b_non)
    (bss_cons (bs_for PassesOwn.never rfl (bi_list (bv 0)) (bg_name (i := 4) sc_newest.nd rfl (by first | exact Or.inl rfl | exact Or.inr rfl))
      (bss_one (bs_if (bt_w (bw_and (bt_cmp (o_eqD (room100 hr)) (b_ix ix_seq (bv 4) b_int (fun _ _ => rfl)) (bv 1) (nomark _)) (bw_and1 (bt_cmp o_le (b_ix ix_seq (bv 4) b_int (fun _ _ => rfl)) (bv 2) (nomark _)))))
      (bss_one (bs_if (bt_w (bw_or (bt_cmp o_is (bv 3) b_non (nomark _)) (bw_or1 (bt_cmp op_gt (b_ix ix_seq (bv 4) b_int (fun _ _ => rfl)) (b_ix ix_seq (bv 3) b_int (fun _ _ => rfl)) (nomark _)))))
      (bss_one (bs_set (i := 3) sc_newest.nd rfl (by first | exact Or.inl rfl | exact Or.inr rfl) (bv 4)))
      bss_nil))
      bss_nil)))
    (bss_one (bs_ret (bv 3))))), ?_⟩
    kas_types
    lcg_off
    refine forL (xs := xs) (fun i σ H' => ∃ (v : V) (o : Option V), σ = [some (.ref p), some (.str z), some (.int t), some v, o] ∧ H' = H ∧ Rep H (oE (newM z t (es.take i))) v) ⟨.non, none, rfl, rfl, by simp only [List.take_zero, newM, List.foldl_nil, oE, Rep]⟩ (fun i σ H' h => by obtain ⟨_, _, _, rfl, _⟩ := h; exact SqL.of hp) (fun i x σ H' hi hx h => ?_) (fun σ H' h => ?_)
    · obtain ⟨v, o, rfl, rfl, hv⟩ := h
      rw [← l2, List.getElem?_map] at hx
      obtain ⟨te, hte, rfl⟩ := Option.map_eq_some_iff.mp hx
      have hrep := l3 te (List.mem_of_getElem? hte)
      have hei : es[i]? = some te.1 := by rw [← l1, List.getElem?_map, hte]; rfl
      obtain ⟨hil, hie⟩ := List.getElem?_eq_some_iff.mp hei
      have ht1 : newM z t (es.take (i + 1)) = newS z t (newM z t (es.take i)) te.1 := by
        unfold newM
        rw [List.take_succ_eq_append_getElem hil, hie, List.foldl_append]
        rfl
      generalize newM z t (es.take i) = om at *
      obtain ⟨c, x, ec, hc, hx2⟩ := ent_at hrep
      rw [ec] at hrep
      rw [ec]
      lcg_off
      refine ite_dec (fun h0 => ?_) (fun h0 => ?_)
      · lcg_off
        refine ite_dec (fun h1 => ?_) (fun h1 => ?_)
        · lcg_off
          cases om with
          | none =>
            have e : v = .non := by simpa only [oE, Rep] using hv
            subst e
            lcg_off
            refine ⟨_, _, rfl, rfl, ?_⟩
            rw [ht1, newS_none h0 h1]
            exact hrep
          | some f =>
            obtain ⟨c1, x1, rfl, hc1, hx1⟩ := ent_at (show Rep H' (entD f) v from hv)
            lcg_off
            refine ite_dec (fun h2 => ?_) (fun h2 => ?_)
            · lcg_off
              refine ⟨_, _, rfl, rfl, ?_⟩
              rw [ht1, newS_some h0 h1 h2]
              exact hrep
            · lcg_off
              refine ⟨_, _, rfl, rfl, ?_⟩
              rw [ht1, newS_old h2]
              exact hv
        · lcg_off
          refine ⟨_, _, rfl, rfl, ?_⟩
          rw [ht1, newS_st h1]
          exact hv
      · rw [if_neg (by simp)]
        lcg_off
        refine ⟨_, _, rfl, rfl, ?_⟩
        rw [ht1, newS_key h0]
        exact hv
    · obtain ⟨v, o, rfl, rfl, hv⟩ := h
      rw [hxl, List.take_length] at hv
      lcg_off
      exact q v hv
theorem newest_use {K : PySem.W.Frag} {H : Hp} {Q : VK} {E : XK} {p : Addr} {z : Str} {t : Int} {xs : List V} (es : List Ent) (hp : H p = some (.lst xs)) (hes : Reps H (es.map entD) xs) (q : ∀ v, Rep H (oE (newM z t es)) v → Q v H) : spNewest K [.ref p, .str z, .int t] H Q E := ⟨p, z, t, xs, es, rfl, hp, hes, q⟩
def spFound (K : PySem.W.Frag) : Sp := fun vs H Q _ => ∃ (p : Addr) (z : Str) (t : Int) (xs : List V) (es : List Ent), vs = [.ref p, .str z, .int t] ∧ H p = some (.lst xs) ∧ Reps H (es.map entD) xs ∧ ∀ v, Rep H (oE (newM z t es)) v → Q v H
theorem sc__law_found : FnScope ["_law_rows", "_law_key", "_law_stamp", "_law_best", "_law_row_here"] ["_law_rows", "_law_key", "_law_stamp"] (defScope s__law_found) := ⟨rfl, rfl, rfl, by decide +kernel, rfl, by decide +kernel, by decide +kernel⟩
theorem ok__law_found (T : Txt K mg) {f : Addr} {fd : FuncData} (N : Fn K mg "_law_found" s__law_found ["_law_rows", "_law_key", "_law_stamp"] f fd) : FnOk P w K mg base CX0 (1) f fd ["_law_rows", "_law_key", "_law_stamp"] (spFound K) := by
  refine N.fu.okB sc__law_found (fun vs H Q E h => ?_) (fun cdv A outer s H vs Q E hr h => ?_)
  · obtain ⟨p, z, t, xs, es, rfl, _⟩ := h
    rfl
  · obtain ⟨p, z, t, xs, es, rfl, hp, hes, q⟩ := h
    obtain ⟨L, l1, l2, l3⟩ := reps_pairs hes
    have hxl : xs.length = es.length := by rw [← l1, ← l2, List.length_map, List.length_map]
    refine ⟨_, (bss_cons (bs_set (i := 3) sc__law_found.nd rfl (by first | exact Or.inl rfl | exact Or.inr rfl) b_non)
    (bss_cons (bs_for PassesOwn.never rfl (bi_list (bv 0)) (bg_name (i := 4) sc__law_found.nd rfl (by first | exact Or.inl rfl | exact Or.inr rfl))
      (bss_one (bs_if (bt_w (bw_and (bt_cmp (o_eqD (room100 hr)) (b_ix ix_seq (bv 4) b_int (fun _ _ => rfl)) (bv 1) (nomark _)) (bw_and (bt_cmp o_le (b_ix ix_seq (bv 4) b_int (fun _ _ => rfl)) (bv 2) (nomark _)) (bw_and1 (bt_w (bw_or (bt_cmp o_is (bv 3) b_non (nomark _)) (bw_or1 (bt_cmp op_gt (b_ix ix_seq (bv 4) b_int (fun _ _ => rfl)) (b_ix ix_seq (bv 3) b_int (fun _ _ => rfl)) (nomark _)))))))))
      (bss_one (bs_set (i := 3) sc__law_found.nd rfl (by first | exact Or.inl rfl | exact Or.inr rfl) (bv 4)))
      bss_nil)))
    (bss_one (bs_ret (bv 3))))), ?_⟩
    kas_types
    lcg_off
    refine forL (xs := xs) (fun i σ H' => ∃ (v : V) (o : Option V), σ = [some (.ref p), some (.str z), some (.int t), some v, o] ∧ H' = H ∧ Rep H (oE (newM z t (es.take i))) v) ⟨.non, none, rfl, rfl, by simp only [List.take_zero, newM, List.foldl_nil, oE, Rep]⟩ (fun i σ H' h => by obtain ⟨_, _, _, rfl, _⟩ := h; exact SqL.of hp) (fun i x σ H' hi hx h => ?_) (fun σ H' h => ?_)
    · obtain ⟨v, o, rfl, rfl, hv⟩ := h
      rw [← l2, List.getElem?_map] at hx
      obtain ⟨te, hte, rfl⟩ := Option.map_eq_some_iff.mp hx
      have hrep := l3 te (List.mem_of_getElem? hte)
      have hei : es[i]? = some te.1 := by rw [← l1, List.getElem?_map, hte]; rfl
      obtain ⟨hil, hie⟩ := List.getElem?_eq_some_iff.mp hei
      have ht1 : newM z t (es.take (i + 1)) = newS z t (newM z t (es.take i)) te.1 := by
        unfold newM
        rw [List.take_succ_eq_append_getElem hil, hie, List.foldl_append]
        rfl
      generalize newM z t (es.take i) = om at *
      obtain ⟨c, x, ec, hc, hx2⟩ := ent_at hrep
      rw [ec] at hrep
      rw [ec]
      lcg_off
      refine ite_dec (fun h0 => ?_) (fun h0 => ?_)
      · lcg_off
        refine ite_dec (fun h1 => ?_) (fun h1 => ?_)
        · lcg_off
          cases om with
          | none =>
            have e : v = .non := by simpa only [oE, Rep] using hv
            subst e
            lcg_off
            refine ⟨_, _, rfl, rfl, ?_⟩
            rw [ht1, newS_none h0 h1]
            exact hrep
          | some f =>
            obtain ⟨c1, x1, rfl, hc1, hx1⟩ := ent_at (show Rep H' (entD f) v from hv)
            lcg_off
            refine ite_dec (fun h2 => ?_) (fun h2 => ?_)
            · lcg_off
              refine ⟨_, _, rfl, rfl, ?_⟩
              rw [ht1, newS_some h0 h1 h2]
              exact hrep
            · lcg_off
              refine ⟨_, _, rfl, rfl, ?_⟩
              rw [ht1, newS_old h2]
              exact hv
        · rw [if_neg (by simp)]
          lcg_off
          refine ⟨_, _, rfl, rfl, ?_⟩
          rw [ht1, newS_st h1]
          exact hv
      · rw [if_neg (by simp)]
        lcg_off
        refine ⟨_, _, rfl, rfl, ?_⟩
        rw [ht1, newS_key h0]
        exact hv
    · obtain ⟨v, o, rfl, rfl, hv⟩ := h
      rw [hxl, List.take_length] at hv
      lcg_off
      exact q v hv
theorem found_use {K : PySem.W.Frag} {H : Hp} {Q : VK} {E : XK} {p : Addr} {z : Str} {t : Int} {xs : List V} (es : List Ent) (hp : H p = some (.lst xs)) (hes : Reps H (es.map entD) xs) (q : ∀ v, Rep H (oE (newM z t es)) v → Q v H) : spFound K [.ref p, .str z, .int t] H Q E := ⟨p, z, t, xs, es, rfl, hp, hes, q⟩
def inS (lo : Str) (hi : Option Str) (e : Ent) : Bool := !decide (e.1.cps.toList < lo.cps.toList) && (match hi with | none => true | some h => decide (e.1.cps.toList < h.cps.toList))
theorem inS_no {lo : Str} {hi : Option Str} {e : Ent} (h : decide (e.1.cps.toList < lo.cps.toList) = true) : inS lo hi e = false := by
  unfold inS
  rw [h]
  rfl
theorem inS_none {lo : Str} {e : Ent} (h : decide (e.1.cps.toList < lo.cps.toList) = false) : inS lo none e = true := by
  unfold inS
  rw [h]
  rfl
theorem inS_some {lo hz : Str} {e : Ent} (h : decide (e.1.cps.toList < lo.cps.toList) = false) : inS lo (some hz) e = decide (e.1.cps.toList < hz.cps.toList) := by
  unfold inS
  rw [h]
  rfl
def hiV : Option Str → V
  | none => .non
  | some z => .str z
theorem filt_snoc {f : Ent → Bool} {es : List Ent} {e : Ent} : (es ++ [e]).filter f = es.filter f ++ if f e = true then [e] else [] := by
  rw [List.filter_append]
  cases h : f e <;> simp [h]
def spStretch (K : PySem.W.Frag) : Sp := fun vs H Q _ => ∃ (p : Addr) (lo : Str) (hi : Option Str) (xs : List V) (es : List Ent), vs = [.ref p, .str lo, hiV hi] ∧ H p = some (.lst xs) ∧ Reps H (es.map entD) xs ∧ es.length < 1000 ∧ ∀ l H1 ys, H l = none → Same H H1 → H1 l = some (.lst ys) → Reps H1 ((es.filter (inS lo hi)).map entD) ys → Q (.ref l) H1
theorem sc_stretch : FnScope ["entries", "low", "high"] ["entries", "low", "high"] (defScope s_stretch) := ⟨rfl, rfl, rfl, by decide +kernel, rfl, by decide +kernel, by decide +kernel⟩
theorem ok_stretch (T : Txt K mg) {f : Addr} {fd : FuncData} (N : Fn K mg "stretch" s_stretch ["entries", "low", "high"] f fd) : FnOk P w K mg base CX0 (1) f fd ["entries", "low", "high"] (spStretch K) := by
  refine N.fu.okB sc_stretch (fun vs H Q E h => ?_) (fun cdv A outer s H vs Q E hr h => ?_)
  · obtain ⟨p, lo, hi, xs, es, rfl, _⟩ := h
    rfl
  · obtain ⟨p, lo, hi, xs, es, rfl, hp, hes, hz, q⟩ := h
    obtain ⟨L, l1, l2, l3⟩ := reps_pairs hes
    have hxl : xs.length = es.length := by rw [← l1, ← l2, List.length_map, List.length_map]
    refine ⟨_, (bss_one (bs_ret (b_lc (x := "entry") (ix := [1, 2]) (fv := ["low", "high"]) (osc := defScope s_stretch) rfl ⟨rfl, by decide +kernel, by decide +kernel, by rfl, by decide +kernel, by decide +kernel, by decide +kernel⟩ (by rfl) (bi_list (bv 0)) (fun _ _ _ _ => (bf_one (bt_w (bw_and (bt_cmp o_le (bv 1) (b_ix (ix_seqK (K := K) rfl) (bv 0) b_int (fun _ _ => rfl)) (nomark _)) (bw_and1 (bt_w (bw_or (bt_cmp o_is (bv 2) b_non (nomark _)) (bw_or1 (bt_cmp o_lt (b_ix (ix_seqK (K := K) rfl) (bv 0) b_int (fun _ _ => rfl)) (bv 2) (nomark _)))))))))) (fun _ _ _ _ => (bv 0))))), ?_⟩
    kas_types
    lcg_off
    refine lcWf (xs := xs) (fun i us F => Same H F ∧ Reps F (((es.take i).filter (inS lo hi)).map entD) us ∧ us.length ≤ i) (by rw [hxl, sizeLine_eq]; omega) ⟨Same.refl _, by simp only [List.take_zero, List.filter_nil, List.map_nil, Reps], Nat.le_refl _⟩ (fun i us F h => ⟨SqL.of (h.1 _ _ hp), h.2.2⟩) (fun i v us F hv h => ?_) (fun us pm_ F F1 h hpm sF hF => ?_)
    · obtain ⟨f1, f2, f3⟩ := h
      rw [← l2, List.getElem?_map] at hv
      obtain ⟨te, hte, rfl⟩ := Option.map_eq_some_iff.mp hv
      have hei : es[i]? = some te.1 := by rw [← l1, List.getElem?_map, hte]; rfl
      obtain ⟨hil, hie⟩ := List.getElem?_eq_some_iff.mp hei
      have hrep := (l3 te (List.mem_of_getElem? hte)).same f1
      obtain ⟨c, x, ec, hc, hx⟩ := ent_at hrep
      rw [ec] at hrep
      rw [ec]
      have ht1 : (es.take (i + 1)).filter (inS lo hi) = (es.take i).filter (inS lo hi) ++ if inS lo hi te.1 = true then [te.1] else [] := by rw [List.take_succ_eq_append_getElem hil, hie, filt_snoc]
      have yes : inS lo hi te.1 = true → Same H F ∧ Reps F (((es.take (i + 1)).filter (inS lo hi)).map entD) (us ++ [.ref c]) ∧ (us ++ [V.ref c]).length ≤ i + 1 := fun hy => by
        refine ⟨f1, ?_, by rw [List.length_append]; simp; omega⟩
        rw [ht1, if_pos hy, List.map_append]
        exact Reps.snoc f2 hrep
      have no : inS lo hi te.1 = false → Same H F ∧ Reps F (((es.take (i + 1)).filter (inS lo hi)).map entD) us ∧ us.length ≤ i + 1 := fun hn => by
        refine ⟨f1, ?_, by omega⟩
        rw [ht1, if_neg (by rw [hn]; simp), List.append_nil]
        exact f2
      cases hi with
      | none =>
        dsimp only [hiV]
        lcg_off
        refine ite_nb (fun h0 => ?_) (fun h0 => ?_)
        · lcg_off
          exact yes (inS_none h0)
        · rw [if_neg (by simp)]
          exact no (inS_no h0)
      | some hz =>
        dsimp only [hiV]
        lcg_off
        refine ite_nb (fun h0 => ?_) (fun h0 => ?_)
        · lcg_off
          refine ite_b (fun h1 => ?_) (fun h1 => ?_)
          · lcg_off
            exact yes ((inS_some h0).trans h1)
          · exact no ((inS_some h0).trans h1)
        · rw [if_neg (by simp)]
          exact no (inS_no h0)
    obtain ⟨f1, f2, _⟩ := h
    rw [hxl, List.take_length] at f2
    exact q pm_ F1 us (Same.free f1 hpm) (Same.tr sF f1) hF (f2.same sF)
theorem stretch_use {K : PySem.W.Frag} {H : Hp} {Q : VK} {E : XK} {p : Addr} {lo : Str} {xs : List V} (hi : Option Str) (es : List Ent) (hp : H p = some (.lst xs)) (hes : Reps H (es.map entD) xs) (hz : es.length < 1000) (q : ∀ l H1 ys, H l = none → Same H H1 → H1 l = some (.lst ys) → Reps H1 ((es.filter (inS lo hi)).map entD) ys → Q (.ref l) H1) : spStretch K [.ref p, .str lo, hiV hi] H Q E := ⟨p, lo, hi, xs, es, rfl, hp, hes, hz, q⟩
def spRank : Sp := fun vs H Q _ => ∃ (v : V) (e : Ent), vs = [v] ∧ Rep H (entD e) v ∧ ∀ p H', Same H H' → H' p = some (.tup [.str (rkE e).1, .int (rkE e).2]) → Q (.ref p) H'
theorem sc_rank_of : FnScope ["entry"] ["entry"] (defScope s_rank_of) := ⟨rfl, rfl, rfl, by decide +kernel, rfl, by decide +kernel, by decide +kernel⟩
theorem ok_rank_of (T : Txt K mg) {f : Addr} {fd : FuncData} (N : Fn K mg "rank_of" s_rank_of ["entry"] f fd) : FnOk P w K mg base CX0 (1) f fd ["entry"] (spRank) := by
  refine N.fu.okB sc_rank_of (fun vs H Q E h => ?_) (fun cdv A outer s H vs Q E hr h => ?_)
  · obtain ⟨v, e, rfl, _⟩ := h
    rfl
  · obtain ⟨v, e, rfl, he, q⟩ := h
    obtain ⟨a, x, rfl, ha, hx⟩ := ent_at he
    refine ⟨_, (bss_one (bs_ret (b_tup (ba_c (b_ix ix_seq (bv 0) b_int (fun _ _ => rfl)) (ba_c (b_un un_neg (b_ix ix_seq (bv 0) b_int (fun _ _ => rfl))) ba_nil rfl) rfl)))), ?_⟩
    kas_types
    lcg_off
    exact q _ _ (by assumption) (by assumption)
def spOrder (K : PySem.W.Frag) : Sp := fun vs H Q _ => ∃ (p : Addr) (xs : List V) (es : List Ent), vs = [.ref p] ∧ H p = some (.lst xs) ∧ Reps H (es.map entD) xs ∧ (es.map rkE).Nodup ∧ es.length < 1000 ∧ ∀ xs' es' l H1, es'.Perm es → Rises es' → H l = none → Same H H1 → H1 l = some (.lst xs') → Reps H1 (es'.map entD) xs' → Q (.ref l) H1
theorem sc_in_order : FnScope ["entries"] ["entries"] (defScope s_in_order) := ⟨rfl, rfl, rfl, by decide +kernel, rfl, by decide +kernel, by decide +kernel⟩
theorem ok_in_order (T : Txt K mg) {f : Addr} {fd : FuncData} (N : Fn K mg "in_order" s_in_order ["entries"] f fd) : FnOk P w K mg base CX0 (4) f fd ["entries"] (spOrder K) := by
  obtain ⟨_, _, N_rank_of⟩ := T.f_rank_of
  have G_rank_of := ok_rank_of (P := P) (w := w) (base := base) T N_rank_of 
  refine N.fu.okB sc_in_order (fun vs H Q E h => ?_) (fun cdv A outer s H vs Q E hr h => ?_)
  · obtain ⟨p, xs, es, rfl, _⟩ := h
    rfl
  · obtain ⟨p, xs, es, rfl, hp, hes, nd, hz, q⟩ := h
    refine ⟨_, (bss_one (bs_ret (b_sortK T.b_sorted (ba_c (bv 0) ba_nil rfl) (b_gl (v := .ref _) ⟨_, N_rank_of.mgx, rfl⟩)))), ?_⟩
    kas_types
    lcg_off
    refine sort_ents (SqL.of hp) hes nd (by omega) (fun e v he => krun_fn (k := 1) N_rank_of G_rank_of (hr.mono (by decide : 3 ≤ 3)).in1.in1 fun H1 s1 R hR => ⟨v, e, rfl, he.same s1, fun a H2 s2 h2 => ?_⟩) (fun xs' es' l H1 a b c d f g => q xs' es' l H1 a b c d f g)
    rw [← kf_at he] at h2
    exact hR a H2 s2 h2
theorem order_use {K : PySem.W.Frag} {H : Hp} {Q : VK} {E : XK} {p : Addr} {xs : List V} (es : List Ent) (hp : H p = some (.lst xs)) (hes : Reps H (es.map entD) xs) (nd : (es.map rkE).Nodup) (hz : es.length < 1000) (q : ∀ xs' es' l H1, es'.Perm es → Rises es' → H l = none → Same H H1 → H1 l = some (.lst xs') → Reps H1 (es'.map entD) xs' → Q (.ref l) H1) : spOrder K [.ref p] H Q E := ⟨p, xs, es, rfl, hp, hes, nd, hz, q⟩
end
section
variable {P : Program} {w : World} {K : PySem.W.Frag} {mg : Str → Option Value} {base : Heap}
abbrev GS := List (Str × Addr × List Ent)
def flat (g : GS) : List Ent := g.flatMap (·.2.2)
def Inner (H : Hp) (b : Addr) (es : List Ent) : Prop := ∃ kvs, H b = some (.dK kvs) ∧ kvs.map (·.1) = es.map (fun e => (Sum.inl e.2.1 : Key)) ∧ Reps H (es.map entD) (kvs.map (·.2))
def tabG (g : GS) : List (Key × V) := g.map fun q => (.inr q.1, .ref q.2.1)
structure HandAt (c : Cs) (H : Hp) (a t : Addr) (g : GS) : Prop where
  ins : ∃ dx, H a = some (.ins c.Hand dx [("kept", .ref t)])
  tab : H t = some (.dK (tabG g))
  own : ∀ q ∈ g, Inner H q.2.1 q.2.2
structure GOk (t : Addr) (g : GS) : Prop where
  keys : (g.map (·.1)).Nodup
  ads : (t :: g.map (·.2.1)).Nodup
  ent : ∀ q ∈ g, (∀ e ∈ q.2.2, e.1 = q.1) ∧ (q.2.2.map (·.2.1)).Nodup ∧ q.2.2 ≠ []
def fp (a t : Addr) (g : GS) : List Addr := a :: t :: g.map (·.2.1)
def Chg (S : List Addr) (H H' : Hp) : Prop := ∀ b o, b ∉ S → H b = some o → H' b = some o
theorem Chg.of {S : List Addr} {H H' : Hp} (s : Same H H') : Chg S H H' := fun b o _ e => s b o e
theorem Chg.trans {S : List Addr} {H H' H'' : Hp} (h : Chg S H H') (h' : Chg S H' H'') : Chg S H H'' := fun b o n e => h' b o n (h b o n e)
theorem Chg.upd {S : List Addr} {H : Hp} {l : Addr} {o : HO} (h : l ∈ S) : Chg S H (upd H l o) := fun b u n e => by rw [upd_ne (fun z => n (by rw [z]; exact h))]; exact e
theorem Inner.stay {H H' : Hp} {b : Addr} {es : List Ent} (h : Inner H b es) (k : ∀ o, H b = some o → H' b = some o) (t : Tups H H') : Inner H' b es := by
  obtain ⟨kvs, h1, h2, h3⟩ := h
  exact ⟨kvs, k _ h1, h2, ents_stay h3 t⟩
section
variable {c : Cs} {H H' : Hp} {a t : Addr} {g : GS}
theorem HandAt.same (h : HandAt c H a t g) (s : Same H H') : HandAt c H' a t g := ⟨h.ins.imp fun _ e => s _ _ e, s _ _ h.tab, fun q hq => (h.own q hq).stay (fun o e => s _ _ e) (.of s)⟩
theorem HandAt.kind (h : HandAt c H a t g) {b : Addr} (hb : b ∈ fp a t g) : (∃ dx fs, H b = some (.ins c.Hand dx fs)) ∨ ∃ kvs, H b = some (.dK kvs) := by
  unfold fp at hb
  rcases List.mem_cons.mp hb with rfl | hb
  · exact .inl (h.ins.imp fun _ e => ⟨_, e⟩)
  · rcases List.mem_cons.mp hb with rfl | hb
    · exact .inr ⟨_, h.tab⟩
    · obtain ⟨q, hq, rfl⟩ := List.mem_map.mp hb
      obtain ⟨kvs, h1, _⟩ := h.own q hq
      exact .inr ⟨kvs, h1⟩
theorem HandAt.notL (h : HandAt c H a t g) {b : Addr} {xs : List V} (e : H b = some (.lst xs)) : b ∉ fp a t g := fun hb => by
  rcases h.kind hb with ⟨_, _, z⟩ | ⟨_, z⟩ <;> (rw [z] at e; cases e)
theorem HandAt.notT (h : HandAt c H a t g) {b : Addr} {xs : List V} (e : H b = some (.tup xs)) : b ∉ fp a t g := fun hb => by
  rcases h.kind hb with ⟨_, _, z⟩ | ⟨_, z⟩ <;> (rw [z] at e; cases e)
theorem HandAt.notN (h : HandAt c H a t g) {b : Addr} (e : H b = none) : b ∉ fp a t g := fun hb => by
  rcases h.kind hb with ⟨_, _, z⟩ | ⟨_, z⟩ <;> (rw [z] at e; cases e)
theorem HandAt.tups (h : HandAt c H a t g) (k : Chg (fp a t g) H H') : Tups H H' := fun b xs e => k b _ (h.notT e) e
theorem HandAt.other {S : List Addr} (h : HandAt c H a t g) (k : Chg S H H') (tu : Tups H H') (d : ∀ b ∈ fp a t g, b ∉ S) : HandAt c H' a t g := by
  refine ⟨h.ins.imp fun _ e => k _ _ (d _ ?_) e, k _ _ (d _ ?_) h.tab, fun q hq => (h.own q hq).stay (fun o e => k _ _ (d _ ?_) e) tu⟩
  · exact List.mem_cons_self
  · exact List.mem_cons_of_mem _ List.mem_cons_self
  · exact List.mem_cons_of_mem _ (List.mem_cons_of_mem _ (List.mem_map.mpr ⟨q, hq, rfl⟩))
theorem rk_key {e f : Ent} (k : rkE e = rkE f) : e.1 = f.1 := congrArg (fun r : RK => r.1) k
theorem rk_st {e f : Ent} (k : rkE e = rkE f) : e.2.1 = f.2.1 := by have h : -e.2.1 = -f.2.1 := congrArg (fun r : RK => r.2) k; omega
theorem mem_flat {e : Ent} : e ∈ flat g ↔ ∃ q ∈ g, e ∈ q.2.2 := by unfold flat; rw [List.mem_flatMap]
theorem GOk.nd (h : GOk t g) : ((flat g).map rkE).Nodup := by
  have h1 := h.keys
  have h3 := h.ent
  clear h
  induction g with
  | nil => exact List.Pairwise.nil
  | cons q r ih =>
    rw [List.map_cons, List.nodup_cons] at h1
    have e : (flat (q :: r)).map rkE = q.2.2.map rkE ++ (flat r).map rkE := by simp only [flat, List.flatMap_cons, List.map_append]
    rw [e, List.nodup_append]
    obtain ⟨a1, a2, _⟩ := h3 q List.mem_cons_self
    refine ⟨?_, ih h1.2 fun p hp => h3 p (List.mem_cons_of_mem _ hp), ?_⟩
    · refine nodup_of_map (f := fun k : RK => -k.2) ?_
      rw [List.map_map]
      refine (List.map_congr_left (fun e _ => ?_)) ▸ a2
      show e.2.1 = -(-e.2.1)
      omega
    · intro x hx y hy exy
      obtain ⟨e, he, rfl⟩ := List.mem_map.mp hx
      obtain ⟨f, hf, rfl⟩ := List.mem_map.mp hy
      obtain ⟨p, hp, hfp⟩ := mem_flat.mp hf
      have k1 := a1 e he
      have k2 := (h3 p (List.mem_cons_of_mem _ hp)).1 f hfp
      have k3 : e.1 = f.1 := rk_key exy
      exact h1.1 (List.mem_map.mpr ⟨p, hp, by rw [← k2, ← k3, k1]⟩)
theorem GOk.one (h : GOk t g) {q q' : Str × Addr × List Ent} (hq : q ∈ g) (hq' : q' ∈ g) (e : q.1 = q'.1) : q = q' := by
  have h1 := h.keys
  clear h
  induction g with
  | nil => cases hq
  | cons p r ih =>
    rw [List.map_cons, List.nodup_cons] at h1
    rcases List.mem_cons.mp hq with rfl | hq1
    · rcases List.mem_cons.mp hq' with rfl | hq2
      · rfl
      · exact (h1.1 (List.mem_map.mpr ⟨q', hq2, e.symm⟩)).elim
    · rcases List.mem_cons.mp hq' with rfl | hq2
      · exact (h1.1 (List.mem_map.mpr ⟨q, hq1, e⟩)).elim
      · exact ih hq1 hq2 h1.2
theorem GOk.oneA (h : GOk t g) {q q' : Str × Addr × List Ent} (hq : q ∈ g) (hq' : q' ∈ g) (e : q.2.1 = q'.2.1) : q = q' := by
  have h1 := (List.nodup_cons.mp h.ads).2
  clear h
  induction g with
  | nil => cases hq
  | cons p r ih =>
    rw [List.map_cons, List.nodup_cons] at h1
    rcases List.mem_cons.mp hq with rfl | hq1
    · rcases List.mem_cons.mp hq' with rfl | hq2
      · rfl
      · exact (h1.1 (List.mem_map.mpr ⟨q', hq2, e.symm⟩)).elim
    · rcases List.mem_cons.mp hq' with rfl | hq2
      · exact (h1.1 (List.mem_map.mpr ⟨q, hq1, e⟩)).elim
      · exact ih hq1 hq2 h1.2
theorem len_flat (h : GOk t g) : g.length ≤ (flat g).length := by
  have h3 := h.ent
  clear h
  induction g with
  | nil => exact Nat.le_refl _
  | cons q r ih =>
    have h4 := (h3 q List.mem_cons_self).2.2
    have h5 := ih fun p hp => h3 p (List.mem_cons_of_mem _ hp)
    have e : (flat (q :: r)).length = q.2.2.length + (flat r).length := by simp only [flat, List.flatMap_cons, List.length_append]
    have h6 := List.length_pos_iff.mpr h4
    rw [e, List.length_cons]
    omega
theorem len_inner {q : Str × Addr × List Ent} (hq : q ∈ g) : q.2.2.length ≤ (flat g).length := by
  induction g with
  | nil => cases hq
  | cons p r ih =>
    have e : (flat (p :: r)).length = p.2.2.length + (flat r).length := by simp only [flat, List.flatMap_cons, List.length_append]
    rcases List.mem_cons.mp hq with rfl | hq
    · omega
    · have := ih hq
      omega
theorem tabG_keys : (tabG g).map (·.1) = (g.map (·.1)).map Sum.inr := by
  unfold tabG
  rw [List.map_map, List.map_map]
  rfl
theorem val_some (h : GOk t g) {q : Str × Addr × List Ent} (hq : q ∈ g) : valV (tabG g) (.inr q.1) = some (.ref q.2.1) := by
  refine valV_mem ?_ (List.mem_map.mpr ⟨q, hq, rfl⟩)
  rw [tabG_keys]
  exact List.Pairwise.map (R := fun a b : Str => a ≠ b) (S := fun a b : Key => a ≠ b) Sum.inr (fun a b n z => n (Sum.inr.inj z)) h.keys
theorem val_none {z : Str} (h : ∀ q ∈ g, q.1 ≠ z) : valV (tabG g) (.inr z) = none := by
  unfold valV
  rw [Option.map_eq_none_iff, List.find?_eq_none]
  intro x hx
  obtain ⟨q, hq, rfl⟩ := List.mem_map.mp hx
  simpa using h q hq
end
theorem Chg.mono {S S' : List Addr} {H H' : Hp} (h : Chg S H H') (s : ∀ b ∈ S, b ∈ S') : Chg S' H H' := fun b o n e => h b o (fun z => n (s b z)) e
def putL (es : List Ent) (e : Ent) : List Ent := if (es.any fun f => decide (f.2.1 = e.2.1)) = true then es.map (fun f => if f.2.1 = e.2.1 then e else f) else es ++ [e]
theorem mem_putL {es : List Ent} {e x : Ent} (nd : (es.map (·.2.1)).Nodup) : x ∈ putL es e ↔ x = e ∨ (x ∈ es ∧ x.2.1 ≠ e.2.1) := by
  unfold putL
  split
  · rename_i h
    obtain ⟨f, hf, hfe⟩ := List.any_eq_true.mp h
    have hfe := of_decide_eq_true hfe
    rw [List.mem_map]
    constructor
    · rintro ⟨y, hy, rfl⟩
      by_cases h1 : y.2.1 = e.2.1
      · rw [if_pos h1]; exact .inl rfl
      · rw [if_neg h1]; exact .inr ⟨hy, h1⟩
    · rintro (rfl | ⟨h1, h2⟩)
      · exact ⟨f, hf, if_pos hfe⟩
      · exact ⟨x, h1, if_neg h2⟩
  · rename_i h
    have h' : ∀ y ∈ es, ¬ y.2.1 = e.2.1 := fun y hy z => h (List.any_eq_true.mpr ⟨y, hy, decide_eq_true z⟩)
    rw [List.mem_append, List.mem_singleton]
    constructor
    · rintro (h1 | h1)
      · exact .inr ⟨h1, h' x h1⟩
      · exact .inl h1
    · rintro (h1 | h1)
      · exact .inr h1
      · exact .inl h1.1
theorem st_putL {es : List Ent} {e : Ent} : (putL es e).map (·.2.1) = if (es.any fun f => decide (f.2.1 = e.2.1)) = true then es.map (·.2.1) else es.map (·.2.1) ++ [e.2.1] := by
  unfold putL
  split
  · rw [List.map_map]
    refine List.map_congr_left fun f hf => ?_
    show (if f.2.1 = e.2.1 then e else f).2.1 = f.2.1
    by_cases h1 : f.2.1 = e.2.1
    · rw [if_pos h1]; exact h1.symm
    · rw [if_neg h1]
  · rw [List.map_append]; rfl
theorem nd_putL {es : List Ent} {e : Ent} (nd : (es.map (·.2.1)).Nodup) : ((putL es e).map (·.2.1)).Nodup := by
  rw [st_putL]
  split
  · exact nd
  · rename_i h
    rw [List.nodup_append]
    refine ⟨nd, List.nodup_cons.mpr ⟨(fun z => by cases z), List.Pairwise.nil⟩, fun x hx y hy z => ?_⟩
    obtain ⟨f, hf, rfl⟩ := List.mem_map.mp hx
    rw [List.mem_singleton.mp hy] at z
    exact h (List.any_eq_true.mpr ⟨f, hf, decide_eq_true z⟩)
theorem putK_inner {H : Hp} : ∀ {es : List Ent} {kvs : List (Key × V)} {e : Ent} {v : V}, kvs.map (·.1) = es.map (fun e => (Sum.inl e.2.1 : Key)) → Reps H (es.map entD) (kvs.map (·.2)) → Rep H (entD e) v →
    (putK kvs (.inl e.2.1) v).map (·.1) = (putL es e).map (fun e => (Sum.inl e.2.1 : Key)) ∧ Reps H ((putL es e).map entD) ((putK kvs (.inl e.2.1) v).map (·.2)) := by
  intro es kvs e v h1 h2 h3
  have hany : ∀ {es : List Ent} {kvs : List (Key × V)}, kvs.map (·.1) = es.map (fun e => (Sum.inl e.2.1 : Key)) → (kvs.any fun kv => decide (kv.1 = (.inl e.2.1 : Key))) = es.any fun f => decide (f.2.1 = e.2.1) := by
    intro es
    induction es with
    | nil => intro kvs h; rw [List.map_nil, List.map_eq_nil_iff] at h; rw [h]; rfl
    | cons f r ih =>
      intro kvs h
      cases kvs with
      | nil => cases h
      | cons kv ks =>
        rw [List.map_cons, List.map_cons] at h
        obtain ⟨a1, a2⟩ := List.cons.inj h
        rw [List.any_cons, List.any_cons, ih a2, a1]
        congr 1
        rw [decide_eq_decide]
        exact ⟨fun z => Sum.inl.inj z, fun z => by rw [z]⟩
  have hmap : ∀ {es : List Ent} {kvs : List (Key × V)}, kvs.map (·.1) = es.map (fun e => (Sum.inl e.2.1 : Key)) → Reps H (es.map entD) (kvs.map (·.2)) → ((kvs.map fun kv => if kv.1 = (.inl e.2.1 : Key) then (kv.1, v) else kv).map (·.1)) = ((es.map fun f => if f.2.1 = e.2.1 then e else f).map fun e => (Sum.inl e.2.1 : Key)) ∧ Reps H ((es.map fun f => if f.2.1 = e.2.1 then e else f).map entD) ((kvs.map fun kv => if kv.1 = (.inl e.2.1 : Key) then (kv.1, v) else kv).map (·.2)) := by
    intro es
    induction es with
    | nil => intro kvs h _; rw [List.map_nil, List.map_eq_nil_iff] at h; rw [h]; exact ⟨rfl, Reps.nil'⟩
    | cons f r ih =>
      intro kvs h h'
      cases kvs with
      | nil => cases h
      | cons kv ks =>
        rw [List.map_cons, List.map_cons] at h
        obtain ⟨a1, a2⟩ := List.cons.inj h
        simp only [List.map_cons, Reps] at h'
        obtain ⟨u, rr, eu, r1, r2⟩ := h'
        obtain ⟨rfl, rfl⟩ := List.cons.inj eu
        obtain ⟨b1, b2⟩ := ih a2 r2
        simp only [List.map_cons]
        by_cases hz : f.2.1 = e.2.1
        · rw [if_pos hz, if_pos (by rw [a1, hz])]
          exact ⟨by rw [b1, a1, hz], Reps.cons' h3 b2⟩
        · rw [if_neg hz, if_neg (by rw [a1]; exact fun z => hz (Sum.inl.inj z))]
          exact ⟨by rw [b1, a1], Reps.cons' r1 b2⟩
  unfold putK putL
  rw [hany h1]
  split
  · exact hmap h1 h2
  · rw [List.map_append, List.map_append, List.map_append, List.map_append, h1]
    exact ⟨rfl, Reps.snoc h2 h3⟩
def putG (g : GS) (z : Str) (e : Ent) : GS := g.map fun q => if q.1 = z then (q.1, q.2.1, putL q.2.2 e) else q
theorem putG_keys {g : GS} {z : Str} {e : Ent} : (putG g z e).map (·.1) = g.map (·.1) := by
  unfold putG
  rw [List.map_map]
  refine List.map_congr_left fun q _ => ?_
  show (if q.1 = z then (q.1, q.2.1, putL q.2.2 e) else q).1 = q.1
  by_cases h : q.1 = z
  · rw [if_pos h]
  · rw [if_neg h]
theorem putG_ads {g : GS} {z : Str} {e : Ent} : (putG g z e).map (·.2.1) = g.map (·.2.1) := by
  unfold putG
  rw [List.map_map]
  refine List.map_congr_left fun q _ => ?_
  show (if q.1 = z then (q.1, q.2.1, putL q.2.2 e) else q).2.1 = q.2.1
  by_cases h : q.1 = z
  · rw [if_pos h]
  · rw [if_neg h]
theorem putG_tab {g : GS} {z : Str} {e : Ent} : tabG (putG g z e) = tabG g := by
  unfold putG tabG
  rw [List.map_map]
  refine List.map_congr_left fun q _ => ?_
  show ((Sum.inr (if q.1 = z then (q.1, q.2.1, putL q.2.2 e) else q).1, V.ref (if q.1 = z then (q.1, q.2.1, putL q.2.2 e) else q).2.1) : Key × V) = (.inr q.1, .ref q.2.1)
  by_cases h : q.1 = z
  · rw [if_pos h]
  · rw [if_neg h]
theorem putL_ne {es : List Ent} {e : Ent} (nd : (es.map (·.2.1)).Nodup) : putL es e ≠ [] := fun z => by
  have := (mem_putL (es := es) (e := e) (x := e) nd).mpr (.inl rfl)
  rw [z] at this
  cases this
theorem putG_ok {t : Addr} {g : GS} {e : Ent} (h : GOk t g) : GOk t (putG g e.1 e) := by
  refine ⟨by rw [putG_keys]; exact h.keys, by rw [putG_ads]; exact h.ads, fun q hq => ?_⟩
  obtain ⟨p, hp, rfl⟩ := List.mem_map.mp hq
  obtain ⟨a1, a2, a3⟩ := h.ent p hp
  by_cases hz : p.1 = e.1
  · rw [if_pos hz]
    refine ⟨fun x hx => ?_, nd_putL a2, putL_ne a2⟩
    rcases (mem_putL a2).mp hx with rfl | ⟨h1, _⟩
    · exact hz.symm
    · exact a1 x h1
  · rw [if_neg hz]
    exact ⟨a1, a2, a3⟩
theorem putG_mem {t : Addr} {g : GS} {e x : Ent} (h : GOk t g) (hz : ∃ q ∈ g, q.1 = e.1) : x ∈ flat (putG g e.1 e) ↔ x = e ∨ (x ∈ flat g ∧ rkE x ≠ rkE e) := by
  rw [mem_flat, mem_flat]
  constructor
  · rintro ⟨q, hq, hx⟩
    obtain ⟨p, hp, rfl⟩ := List.mem_map.mp hq
    obtain ⟨a1, a2, a3⟩ := h.ent p hp
    by_cases hz : p.1 = e.1
    · rw [if_pos hz] at hx
      rcases (mem_putL a2).mp hx with rfl | ⟨h1, h2⟩
      · exact .inl rfl
      · exact .inr ⟨⟨p, hp, h1⟩, fun k => h2 (rk_st k)⟩
    · rw [if_neg hz] at hx
      exact .inr ⟨⟨p, hp, hx⟩, fun k => hz (by have k1 : x.1 = e.1 := rk_key k; rw [← a1 x hx, k1])⟩
  · rintro (rfl | ⟨⟨p, hp, hx⟩, hn⟩)
    · obtain ⟨q, hq, hqz⟩ := hz
      obtain ⟨a1, a2, a3⟩ := h.ent q hq
      exact ⟨_, List.mem_map.mpr ⟨q, hq, rfl⟩, by rw [if_pos hqz]; exact (mem_putL a2).mpr (.inl rfl)⟩
    · obtain ⟨a1, a2, a3⟩ := h.ent p hp
      refine ⟨_, List.mem_map.mpr ⟨p, hp, rfl⟩, ?_⟩
      by_cases hz : p.1 = e.1
      · rw [if_pos hz]
        refine (mem_putL a2).mpr (.inr ⟨hx, fun k => hn ?_⟩)
        show ((x.1, -x.2.1) : RK) = (e.1, -e.2.1)
        rw [k, a1 x hx, hz]
      · rw [if_neg hz]; exact hx
theorem newG_ok {t b : Addr} {g : GS} {e : Ent} (h : GOk t g) (hz : ∀ q ∈ g, q.1 ≠ e.1) (hb : b ∉ t :: g.map (·.2.1)) : GOk t (g ++ [(e.1, b, [e])]) := by
  refine ⟨?_, ?_, fun q hq => ?_⟩
  · rw [List.map_append, List.nodup_append]
    refine ⟨h.keys, List.nodup_cons.mpr ⟨(fun z => by cases z), List.Pairwise.nil⟩, fun x hx y hy z => ?_⟩
    obtain ⟨q, hq, rfl⟩ := List.mem_map.mp hx
    exact hz q hq (z.trans (List.mem_singleton.mp hy))
  · rw [List.map_append, ← List.cons_append, List.nodup_append]
    refine ⟨h.ads, List.nodup_cons.mpr ⟨(fun z => by cases z), List.Pairwise.nil⟩, fun x hx y hy z => ?_⟩
    have e1 : y = b := List.mem_singleton.mp hy
    rw [z, e1] at hx
    exact hb hx
  · rcases List.mem_append.mp hq with hq | hq
    · exact h.ent q hq
    · rw [List.mem_singleton.mp hq]
      exact ⟨fun x hx => by rw [List.mem_singleton.mp hx], List.nodup_cons.mpr ⟨(fun z => by cases z), List.Pairwise.nil⟩, fun z => by cases z⟩
theorem newG_mem {b : Addr} {t : Addr} {g : GS} {e x : Ent} (h : GOk t g) (hz : ∀ q ∈ g, q.1 ≠ e.1) : x ∈ flat (g ++ [(e.1, b, [e])]) ↔ x = e ∨ (x ∈ flat g ∧ rkE x ≠ rkE e) := by
  have e1 : flat (g ++ [(e.1, b, [e])]) = flat g ++ [e] := by simp only [flat, List.flatMap_append, List.flatMap_cons, List.flatMap_nil, List.append_nil]
  rw [e1, List.mem_append, List.mem_singleton]
  constructor
  · rintro (h1 | h1)
    · refine .inr ⟨h1, fun k => ?_⟩
      obtain ⟨q, hq, hx⟩ := mem_flat.mp h1
      have k1 : x.1 = e.1 := rk_key k
      exact hz q hq (by rw [← (h.ent q hq).1 x hx, k1])
    · exact .inl h1
  · rintro (h1 | h1)
    · exact .inr h1
    · exact .inl h1.1
theorem putK_new {κ : Type} [DecidableEq κ] {kvs : List (κ × V)} {k : κ} {v : V} (h : ∀ q ∈ kvs, q.1 ≠ k) : putK kvs k v = kvs ++ [(k, v)] := by
  unfold putK
  rw [if_neg]
  intro z
  obtain ⟨q, hq, e⟩ := List.any_eq_true.mp z
  exact h q hq (of_decide_eq_true e)
theorem HandAt.put1 {c : Cs} {H : Hp} {a t r : Addr} {g : GS} {e : Ent} {p : Str × Addr × List Ent} {kvs : List (Key × V)} (hA : HandAt c H a t g) (hg : GOk t g) (hp : p ∈ g) (hpe : p.1 = e.1) (i1 : H p.2.1 = some (.dK kvs)) (i2 : kvs.map (·.1) = p.2.2.map (fun e => (Sum.inl e.2.1 : Key))) (i3 : Reps H (p.2.2.map entD) (kvs.map (·.2))) (hr : Rep H (entD e) (.ref r)) :
    HandAt c (upd H p.2.1 (.dK (putK kvs (.inl e.2.1) (.ref r)))) a t (putG g e.1 e) := by
  have tu : Tups H (upd H p.2.1 (.dK (putK kvs (.inl e.2.1) (.ref r)))) := Tups.upd fun xs z => by rw [i1] at z; cases z
  obtain ⟨⟨dx, ha⟩, ht, ho⟩ := hA
  refine ⟨⟨dx, ?_⟩, ?_, fun q hq => ?_⟩
  · rw [upd_ne (fun z => by rw [z, i1] at ha; cases ha)]; exact ha
  · rw [upd_ne (fun z => (List.nodup_cons.mp hg.ads).1 (List.mem_map.mpr ⟨p, hp, z.symm⟩)), putG_tab]; exact ht
  · obtain ⟨p', hp', rfl⟩ := List.mem_map.mp hq
    by_cases hz : p'.1 = e.1
    · obtain rfl := hg.one hp hp' (hpe.trans hz.symm)
      rw [if_pos hz]
      obtain ⟨j1, j2⟩ := putK_inner i2 i3 hr
      exact ⟨_, upd_same, j1, ents_stay j2 tu⟩
    · rw [if_neg hz]
      exact (ho p' hp').stay (fun o e' => by rw [upd_ne (fun z => hz (by rw [hg.oneA hp' hp z]; exact hpe))]; exact e') tu
theorem putG_fp {a t b : Addr} {g : GS} {z : Str} {e : Ent} (h : b ∈ fp a t (putG g z e)) : b ∈ fp a t g := by
  unfold fp at *
  rw [putG_ads] at h
  exact h
theorem HandAt.put2 {c : Cs} {H H' : Hp} {a t b r : Addr} {g : GS} {e : Ent} (hA : HandAt c H a t g) (hg : GOk t g) (hb : H b = none) (ha' : H' a = H a) (ht' : H' t = some (.dK (tabG g ++ [(.inr e.1, .ref b)]))) (hb' : H' b = some (.dK [(.inl e.2.1, .ref r)])) (hr : Rep H' (entD e) (.ref r)) (k : Chg [t] H H') : HandAt c H' a t (g ++ [(e.1, b, [e])]) := by
  obtain ⟨⟨dx, ha⟩, ht, ho⟩ := hA
  have tu : Tups H H' := fun d xs z => k d _ (fun m => by rw [List.mem_singleton.mp m, ht] at z; cases z) z
  refine ⟨⟨dx, by rw [ha', ha]⟩, by rw [ht']; unfold tabG; rw [List.map_append]; rfl, fun q hq => ?_⟩
  rcases List.mem_append.mp hq with hq | hq
  · obtain ⟨kvs, i1, i2, i3⟩ := ho q hq
    by_cases z : q.2.1 = t
    · exact ((List.nodup_cons.mp hg.ads).1 (List.mem_map.mpr ⟨q, hq, z⟩)).elim
    · exact ⟨kvs, k _ _ (fun m => z (List.mem_singleton.mp m)) i1, i2, ents_stay i3 tu⟩
  · rw [List.mem_singleton.mp hq]
    exact ⟨_, hb', rfl, Reps.cons' hr Reps.nil'⟩
theorem val_last {kvs : List (Key × V)} {k : Key} {v : V} (h : ∀ q ∈ kvs, q.1 ≠ k) : valV (kvs ++ [(k, v)]) k = some v := by
  unfold valV
  rw [List.find?_append, List.find?_eq_none.mpr (fun q hq => by simpa using h q hq)]
  simp
end
section
variable {P : Program} {w : World} {K : PySem.W.Frag} {mg : Str → Option Value} {base : Heap}
section
variable {c : Cs} {H H' : Hp} {a t : Addr} {g : GS}
theorem rd_kept {K : PySem.W.Frag} {mg : Str → Option Value} (Z : Cl K mg c) (hA : HandAt c H a t g) {F : V → Prop} (q : F (.ref t)) :
    ∃ a' C dx fs v', V.ref a = .ref a' ∧ H a' = some (.ins C dx fs) ∧ Cls K C ∧ NoAttr K C "kept" ∧ fs.lookup ("kept" : Str) = some v' ∧ F v' := by
  obtain ⟨⟨dx, ha⟩, _⟩ := hA
  exact ⟨a, _, dx, _, _, rfl, ha, Z.c_Hand, Z.na1, rfl, q⟩
theorem rd_meth (hA : HandAt c H a t g) {mt : Str} (hl : ([("kept", .ref t)] : List (Str × V)).lookup mt = none) {G : Prop} (q : G) : ∃ a' dx fs, V.ref a = .ref a' ∧ H a' = some (.ins c.Hand dx fs) ∧ fs.lookup mt = none ∧ G := by
  obtain ⟨⟨dx, ha⟩, _⟩ := hA
  exact ⟨a, dx, _, rfl, ha, hl, q⟩
end
def spInit0 (c : Cs) : Sp := fun vs H Q _ => ∃ a dx, vs = [.ref a] ∧ H a = some (.ins c.Hand dx []) ∧ ∀ t H', HandAt c H' a t [] → Chg [a] H H' → H t = none → Q .non H'
theorem sc_Hand_init : FnScope ["self"] ["self"] (defScope s_Hand_init) := ⟨rfl, rfl, rfl, by decide +kernel, rfl, by decide +kernel, by decide +kernel⟩
theorem ok_Hand_init (T : Txt K mg) {c : Cs} (Z : Cl K mg c) {fd : FuncData} {dV : Value} (F : FunD K "__init__" "Hand.__init__" s_Hand_init dV c.Hand_init fd) : FnOk P w K mg base CX0 (1) c.Hand_init fd ["self"] (spInit0 c) := by
  refine F.okB sc_Hand_init (fun vs H Q E h => ?_) (fun cdv A outer s H vs Q E hr h => ?_)
  · obtain ⟨a, dx, rfl, _⟩ := h
    rfl
  · obtain ⟨a, dx, rfl, ha, q⟩ := h
    refine ⟨_, (bss_one (bs_fld (bv 0) b_dnewK)), ?_⟩
    kas_types
    lcg_off
    intro p hp
    have hne : a ≠ p := fun e => by rw [e, hp] at ha; cases ha
    lcg_off
    refine ⟨a, _, dx, _, rfl, by rw [upd_ne hne]; exact ha, Z.c_Hand, Z.na1, by decide, ?_⟩
    refine q p _ ⟨⟨dx, upd_same⟩, by rw [upd_ne (Ne.symm hne), upd_same]; rfl, fun q hq => by cases hq⟩ (fun b o n e => ?_) hp
    rw [upd_ne (fun z => n (by rw [z]; exact List.mem_cons_self)), upd_ne (ne_of_none e hp)]
    exact e
def spClear (c : Cs) : Sp := fun vs H Q _ => ∃ a t g, vs = [.ref a] ∧ HandAt c H a t g ∧ ∀ t' H', HandAt c H' a t' [] → Chg [a] H H' → H t' = none → Q .non H'
theorem sc_Hand_clear : FnScope ["self"] ["self"] (defScope s_Hand_clear) := ⟨rfl, rfl, rfl, by decide +kernel, rfl, by decide +kernel, by decide +kernel⟩
theorem ok_Hand_clear (T : Txt K mg) {c : Cs} (Z : Cl K mg c) {fd : FuncData} {dV : Value} (F : FunD K "clear" "Hand.clear" s_Hand_clear dV c.Hand_clear fd) : FnOk P w K mg base CX0 (1) c.Hand_clear fd ["self"] (spClear c) := by
  refine F.okB sc_Hand_clear (fun vs H Q E h => ?_) (fun cdv A outer s H vs Q E hr h => ?_)
  · obtain ⟨a, t, g, rfl, _⟩ := h
    rfl
  · obtain ⟨a, t, g, rfl, ⟨⟨dx, ha⟩, _⟩, q⟩ := h
    refine ⟨_, (bss_one (bs_fld (bv 0) b_dnewK)), ?_⟩
    kas_types
    lcg_off
    intro p hp
    have hne : a ≠ p := fun e => by rw [e, hp] at ha; cases ha
    lcg_off
    refine ⟨a, _, dx, _, rfl, by rw [upd_ne hne]; exact ha, Z.c_Hand, Z.na1, by show 1 < 1000; decide, ?_⟩
    refine q p _ ⟨⟨dx, upd_same⟩, by rw [upd_ne (Ne.symm hne), upd_same]; rfl, fun q hq => by cases hq⟩ (fun b o n e => ?_) hp
    rw [upd_ne (fun z => n (by rw [z]; exact List.mem_cons_self)), upd_ne (ne_of_none e hp)]
    exact e
theorem clear_use {c : Cs} {H : Hp} {Q : VK} {E : XK} {a t : Addr} {g : GS} (hA : HandAt c H a t g) (q : ∀ t' H', HandAt c H' a t' [] → Chg [a] H H' → H t' = none → Q .non H') : spClear c [.ref a] H Q E := ⟨a, t, g, rfl, hA, q⟩
def spHPut (c : Cs) : Sp := fun vs H Q _ => ∃ (a t : Addr) (g : GS) (e : Ent) (v : V), vs = [.ref a, .str e.1, .int e.2.1, v] ∧ HandAt c H a t g ∧ GOk t g ∧ Rep H (oD e.2.2) v ∧ (flat g).length < 1000 ∧
  ∀ H' g', HandAt c H' a t g' → GOk t g' → Chg (fp a t g) H H' → (∀ b ∈ fp a t g', b ∈ fp a t g ∨ H b = none) → (∀ x, x ∈ flat g' ↔ x = e ∨ (x ∈ flat g ∧ rkE x ≠ rkE e)) → Q .non H'
theorem sc_Hand_put : FnScope ["self", "key", "stamp", "value"] ["self", "key", "stamp", "value"] (defScope s_Hand_put) := ⟨rfl, rfl, rfl, by decide +kernel, rfl, by decide +kernel, by decide +kernel⟩
theorem ok_Hand_put (T : Txt K mg) {c : Cs} (Z : Cl K mg c) {fd : FuncData} {dV : Value} (F : FunD K "put" "Hand.put" s_Hand_put dV c.Hand_put fd) : FnOk P w K mg base CX0 (1) c.Hand_put fd ["self", "key", "stamp", "value"] (spHPut c) := by
  refine F.okB sc_Hand_put (fun vs H Q E h => ?_) (fun cdv A outer s H vs Q E hr h => ?_)
  · obtain ⟨a, t, g, e, v, rfl, _⟩ := h
    rfl
  · obtain ⟨a, t, g, e, v, rfl, hA, hg, hv, hz, q⟩ := h
    have hgl := len_flat hg
    refine ⟨_, (bss_cons (bs_if (bt_cmp (op_notinK (room100 hr)) (bv 1) (be_fld (bv 0)) rfl)
      (bss_one (bs_dput (hu_of hr) (be_fld (bv 0)) (bv 1) b_dnewK))
      bss_nil)
    (bss_one (bs_dput (hu_of hr) (b_dget (hu_of hr) (be_fld (bv 0)) (bv 1) (fun _ _ => rfl)) (bv 2) (b_tup (ba_c (bv 1) (ba_c (bv 2) (ba_c (bv 3) ba_nil rfl) rfl) rfl))))), ?_⟩
    kas_types
    lcg_off
    refine rd_kept Z hA ?_
    lcg_off
    refine rd_notinK hA.tab ?_
    by_cases hk : ∃ p ∈ g, p.1 = e.1
    · obtain ⟨p, hp, hpe⟩ := hk
      have hvs := val_some hg hp
      rw [hpe] at hvs
      rw [hvs]
      lcg_off
      refine ite_f (by simp) ?_
      lcg_off
      rename_i r G s1 hr1
      have hA1 := hA.same s1
      refine rd_kept Z hA1 ?_
      lcg_off
      refine ⟨t, .ref p.2.1, rfl, by rw [← hvs]; exact DGet.k (k := .inr e.1) hA1.tab, ?_⟩
      lcg_off
      obtain ⟨kvs, i1, i2, i3⟩ := hA1.own p hp
      have hkl : kvs.length = p.2.2.length := by have := congrArg List.length i2; rwa [List.length_map, List.length_map] at this
      have hpl := len_inner hp
      refine ⟨p.2.1, _, rfl, DPut.k (k := .inl e.2.1) i1 (by rw [sizeLine_eq]; omega), ?_⟩
      refine q _ _ (hA1.put1 hg hp hpe i1 i2 i3 (mk_ent hr1 (oD_any hv))) (putG_ok hg) ?_ (fun b hb => .inl (putG_fp hb)) (fun x => putG_mem hg ⟨p, hp, hpe⟩)
      exact (Chg.of s1).trans (Chg.upd (List.mem_cons_of_mem _ (List.mem_cons_of_mem _ (List.mem_map.mpr ⟨p, hp, rfl⟩))))
    · have hno : ∀ q ∈ g, q.1 ≠ e.1 := fun q hq z => hk ⟨q, hq, z⟩
      rw [val_none hno]
      lcg_off
      refine ite_t (by simp) ?_
      lcg_off
      intro b hb
      have sb : Same H (upd H b (.dK [])) := same_new hb
      have hbt : b ≠ t := fun z => by have := hA.tab; rw [← z, hb] at this; cases this
      have hba : b ≠ a := fun z => by obtain ⟨dx, this⟩ := hA.ins; rw [← z, hb] at this; cases this
      lcg_off
      refine rd_kept Z (hA.same sb) ?_
      lcg_off
      refine ⟨t, _, rfl, DPut.k (k := .inr e.1) (hA.same sb).tab (by rw [sizeLine_eq]; unfold tabG; rw [List.length_map]; omega), ?_⟩
      rw [putK_new (fun q hq => by obtain ⟨p, hp, rfl⟩ := List.mem_map.mp hq; exact fun z => hno p hp (Sum.inr.inj z))]
      obtain ⟨H2, hH2⟩ : ∃ H2, upd (upd H b (.dK [])) t (.dK (tabG g ++ [(.inr e.1, .ref b)])) = H2 := ⟨_, rfl⟩
      have ha2 : H2 a = H a := by rw [← hH2, upd_ne (fun z => by obtain ⟨dx, this⟩ := hA.ins; rw [z, hA.tab] at this; cases this), upd_ne (Ne.symm hba)]
      have ht2 : H2 t = some (.dK (tabG g ++ [(.inr e.1, .ref b)])) := by rw [← hH2]; exact upd_same
      have hb2 : H2 b = some (.dK []) := by rw [← hH2, upd_ne hbt]; exact upd_same
      have k2 : Chg [t] H H2 := by rw [← hH2]; exact (Chg.of sb).trans (Chg.upd List.mem_cons_self)
      rw [hH2]
      clear hH2
      obtain ⟨dx, hadx⟩ := hA.ins
      lcg_off
      rename_i r G s1 hr1
      refine ⟨a, _, dx, _, _, rfl, by rw [s1 _ _ (ha2.trans hadx)], Z.c_Hand, Z.na1, rfl, ?_⟩
      lcg_off
      refine ⟨t, .ref b, rfl, ?_, ?_⟩
      · have e1 : valV (tabG g ++ [((.inr e.1 : Key), V.ref b)]) (.inr e.1) = some (.ref b) := val_last (fun q hq => by obtain ⟨p, hp, rfl⟩ := List.mem_map.mp hq; exact fun z => hno p hp (Sum.inr.inj z))
        rw [← e1]
        exact DGet.k (k := .inr e.1) (s1 _ _ ht2)
      lcg_off
      refine ⟨b, _, rfl, DPut.k (k := .inl e.2.1) (s1 _ _ hb2) (by rw [sizeLine_eq]; decide), ?_⟩
      have k3 : Chg [t] H (upd G b (.dK (putK [] (.inl e.2.1) (.ref r)))) := fun d o n z => by
        rw [upd_ne (ne_of_none z hb)]
        exact s1 _ _ (k2 d o n z)
      have hr2 : Rep (upd G b (.dK (putK [] (.inl e.2.1) (.ref r)))) (entD e) (.ref r) := mk_ent (by rw [upd_ne (fun z => by rw [z, s1 _ _ hb2] at hr1; cases hr1)]; exact hr1) (oD_any hv)
      refine q _ _ (hA.put2 hg hb ?_ ?_ upd_same hr2 k3) (newG_ok hg hno ?_) (k3.mono fun d hd => ?_) (fun d hd => ?_) (fun x => newG_mem hg hno)
      · rw [upd_ne (Ne.symm hba), s1 _ _ (ha2.trans hadx), hadx]
      · rw [upd_ne (Ne.symm hbt)]; exact s1 _ _ ht2
      · intro z
        exact hA.notN hb (List.mem_cons_of_mem _ z)
      · rw [List.mem_singleton.mp hd]; exact List.mem_cons_of_mem _ List.mem_cons_self
      · unfold fp at hd ⊢
        rw [List.map_append] at hd
        rcases List.mem_cons.mp hd with z | hd
        · exact .inl (by rw [z]; exact List.mem_cons_self)
        · rcases List.mem_cons.mp hd with z | hd
          · exact .inl (by rw [z]; exact List.mem_cons_of_mem _ List.mem_cons_self)
          · rcases List.mem_append.mp hd with hd | hd
            · exact .inl (List.mem_cons_of_mem _ (List.mem_cons_of_mem _ hd))
            · exact .inr (by rw [List.mem_singleton.mp hd]; exact hb)
theorem hput_use {c : Cs} {H : Hp} {Q : VK} {E : XK} {a t : Addr} {g : GS} {e : Ent} {v : V} (hA : HandAt c H a t g) (hg : GOk t g) (hv : Rep H (oD e.2.2) v) (hz : (flat g).length < 1000)
    (q : ∀ H' g', HandAt c H' a t g' → GOk t g' → Chg (fp a t g) H H' → (∀ b ∈ fp a t g', b ∈ fp a t g ∨ H b = none) → (∀ x, x ∈ flat g' ↔ x = e ∨ (x ∈ flat g ∧ rkE x ≠ rkE e)) → Q .non H') : spHPut c [.ref a, .str e.1, .int e.2.1, v] H Q E := ⟨a, t, g, e, v, rfl, hA, hg, hv, hz, q⟩
end
section
variable {P : Program} {w : World} {K : PySem.W.Frag} {mg : Str → Option Value} {base : Heap}
def IsNew (z : Str) (t : Int) (es : List Ent) : Option Ent → Prop
  | none => ∀ f ∈ es, f.1 = z → ¬ f.2.1 ≤ t
  | some e => e ∈ es ∧ e.1 = z ∧ e.2.1 ≤ t ∧ ∀ f ∈ es, f.1 = z → f.2.1 ≤ t → f.2.1 ≤ e.2.1
theorem isnew_step {z : Str} {t : Int} {es : List Ent} {o : Option Ent} {x : Ent} (h : IsNew z t es o) : IsNew z t (es ++ [x]) (newS z t o x) := by
  by_cases h0 : x.1 = z
  · by_cases h1 : x.2.1 ≤ t
    · cases o with
      | none =>
        rw [newS_none h0 h1]
        refine ⟨List.mem_append.mpr (.inr List.mem_cons_self), h0, h1, fun f hf hz ht => ?_⟩
        rcases List.mem_append.mp hf with hf | hf
        · exact (h f hf hz ht).elim
        · rw [List.mem_singleton.mp hf]; exact Int.le_refl _
      | some e =>
        obtain ⟨a1, a2, a3, a4⟩ := h
        by_cases h2 : e.2.1 < x.2.1
        · rw [newS_some h0 h1 h2]
          refine ⟨List.mem_append.mpr (.inr List.mem_cons_self), h0, h1, fun f hf hz ht => ?_⟩
          rcases List.mem_append.mp hf with hf | hf
          · have := a4 f hf hz ht; omega
          · rw [List.mem_singleton.mp hf]; exact Int.le_refl _
        · rw [newS_old h2]
          refine ⟨List.mem_append.mpr (.inl a1), a2, a3, fun f hf hz ht => ?_⟩
          rcases List.mem_append.mp hf with hf | hf
          · exact a4 f hf hz ht
          · rw [List.mem_singleton.mp hf]; omega
    · rw [newS_st h1]
      cases o with
      | none =>
        intro f hf hz
        rcases List.mem_append.mp hf with hf | hf
        · exact h f hf hz
        · rw [List.mem_singleton.mp hf]; exact h1
      | some e =>
        obtain ⟨a1, a2, a3, a4⟩ := h
        refine ⟨List.mem_append.mpr (.inl a1), a2, a3, fun f hf hz ht => ?_⟩
        rcases List.mem_append.mp hf with hf | hf
        · exact a4 f hf hz ht
        · rw [List.mem_singleton.mp hf] at ht; exact (h1 ht).elim
  · rw [newS_key h0]
    cases o with
    | none =>
      intro f hf hz
      rcases List.mem_append.mp hf with hf | hf
      · exact h f hf hz
      · rw [List.mem_singleton.mp hf] at hz; exact (h0 hz).elim
    | some e =>
      obtain ⟨a1, a2, a3, a4⟩ := h
      refine ⟨List.mem_append.mpr (.inl a1), a2, a3, fun f hf hz ht => ?_⟩
      rcases List.mem_append.mp hf with hf | hf
      · exact a4 f hf hz ht
      · rw [List.mem_singleton.mp hf] at hz; exact (h0 hz).elim
theorem isnew (z : Str) (t : Int) (es : List Ent) : IsNew z t es (newM z t es) := by
  have key : ∀ (fs pre : List Ent) (o : Option Ent), IsNew z t pre o → IsNew z t (pre ++ fs) (fs.foldl (newS z t) o) := by
    intro fs
    induction fs with
    | nil => intro pre o h; rw [List.append_nil]; exact h
    | cons x r ih =>
      intro pre o h
      have := ih (pre ++ [x]) _ (isnew_step h)
      rw [List.append_assoc] at this
      exact this
  exact key es [] none (fun f hf => by cases hf)
theorem rk_inj {es : List Ent} (nd : (es.map rkE).Nodup) {e f : Ent} (he : e ∈ es) (hf : f ∈ es) (k : rkE e = rkE f) : e = f := by
  induction es with
  | nil => cases he
  | cons x r ih =>
    rw [List.map_cons, List.nodup_cons] at nd
    rcases List.mem_cons.mp he with h1 | h1
    · rcases List.mem_cons.mp hf with h2 | h2
      · rw [h1, h2]
      · exact (nd.1 (List.mem_map.mpr ⟨f, h2, by rw [← k, h1]⟩)).elim
    · rcases List.mem_cons.mp hf with h2 | h2
      · exact (nd.1 (List.mem_map.mpr ⟨e, h1, by rw [k, h2]⟩)).elim
      · exact ih nd.2 h1 h2
theorem newM_eq {z : Str} {t : Int} {es fs : List Ent} (nd : (fs.map rkE).Nodup) (h : ∀ x, x.1 = z → (x ∈ es ↔ x ∈ fs)) : newM z t es = newM z t fs := by
  have h1 := isnew z t es
  have h2 := isnew z t fs
  generalize newM z t es = o at *
  generalize newM z t fs = p at *
  cases o with
  | none =>
    cases p with
    | none => rfl
    | some f =>
      obtain ⟨b1, b2, b3, b4⟩ := h2
      exact (h1 f ((h f b2).mpr b1) b2 b3).elim
  | some e =>
    obtain ⟨a1, a2, a3, a4⟩ := h1
    cases p with
    | none => exact (h2 e ((h e a2).mp a1) a2 a3).elim
    | some f =>
      obtain ⟨b1, b2, b3, b4⟩ := h2
      have c1 := a4 f ((h f b2).mpr b1) b2 b3
      have c2 := b4 e ((h e a2).mp a1) a2 a3
      have c3 : e.2.1 = f.2.1 := by omega
      rw [rk_inj nd ((h e a2).mp a1) b1 (by show ((e.1, -e.2.1) : RK) = (f.1, -f.2.1); rw [a2, b2, c3])]
def FrzS (H : Hp) (t : Addr) (o : Obj) (x : HO) (F : Hp) : Prop := F t = some (.frz o x) ∧ ∀ b u, b ≠ t → H b = some u → F b = some u
theorem FrzS.mk' {H H1 : Hp} {t : Addr} {o : Obj} {x : HO} (s : Same H H1) : FrzS H t o x (upd H1 t (.frz o x)) := ⟨upd_same, fun b u n e => by rw [upd_ne n]; exact s _ _ e⟩
theorem FrzS.same {H F F1 : Hp} {t : Addr} {o : Obj} {x : HO} (h : FrzS H t o x F) (s : Same F F1) : FrzS H t o x F1 := ⟨s _ _ h.1, fun b u n e => s _ _ (h.2 b u n e)⟩
theorem FrzS.upd {H F : Hp} {t l : Addr} {o : Obj} {x u : HO} (h : FrzS H t o x F) (hl : H l = none) (ht : H t ≠ none) : FrzS H t o x (upd F l u) := ⟨by rw [upd_ne (fun z => ht (by rw [z]; exact hl))]; exact h.1, fun b u n e => by rw [upd_ne (ne_of_none e hl)]; exact h.2 b u n e⟩
theorem FrzS.thaw {H F : Hp} {t : Addr} {o : Obj} {x : HO} (h : FrzS H t o x F) (ht : H t = some x) : Same H (L2.upd F t x) := fun b u e => by
  by_cases z : b = t
  · subst z
    rw [upd_same, ← ht, e]
  · rw [upd_ne z]; exact h.2 b u z e
theorem FrzS.tups {H F : Hp} {t : Addr} {o : Obj} {x : HO} (h : FrzS H t o x F) (ht : ∀ xs, H t ≠ some (.tup xs)) : Tups H F := fun b xs e => h.2 b _ (fun z => ht xs (by rw [← z]; exact e)) e
theorem FrzS.inner {H F : Hp} {t b : Addr} {o : Obj} {x : HO} {es : List Ent} (h : FrzS H t o x F) (ht : ∀ xs, H t ≠ some (.tup xs)) (i : Inner H b es) (n : b ≠ t) : Inner F b es := i.stay (fun o e => h.2 b _ n e) (h.tups ht)
theorem tab_at {g : GS} {i : Nat} {k : Key} {v : V} (h : (tabG g)[i]? = some (k, v)) : ∃ (hi : i < g.length), v = .ref (g[i]).2.1 ∧ g[i] ∈ g := by
  unfold tabG at h
  rw [List.getElem?_map] at h
  obtain ⟨q, hq, e⟩ := Option.map_eq_some_iff.mp h
  obtain ⟨hi, e2⟩ := List.getElem?_eq_some_iff.mp hq
  exact ⟨hi, by rw [e2]; exact (congrArg Prod.snd e).symm, List.getElem_mem hi⟩
theorem tabG_len {g : GS} : (tabG g).length = g.length := by unfold tabG; rw [List.length_map]
theorem take_flat {g : GS} {i : Nat} (hi : i < g.length) : flat (g.take (i + 1)) = flat (g.take i) ++ (g[i]).2.2 := by
  rw [List.take_succ_eq_append_getElem hi]
  simp only [flat, List.flatMap_append, List.flatMap_cons, List.flatMap_nil, List.append_nil]
def spFind (c : Cs) : Sp := fun vs H Q _ => ∃ (a t : Addr) (g : GS) (z : Str) (s : Int), vs = [.ref a, .str z, .int s] ∧ HandAt c H a t g ∧ GOk t g ∧ (flat g).length < 1000 ∧ ∀ v H', Same H H' → Rep H' (oE (newM z s (flat g))) v → Q v H'
theorem sc_Hand_find : FnScope ["self", "key", "stamp"] ["self", "key", "stamp"] (defScope s_Hand_find) := ⟨rfl, rfl, rfl, by decide +kernel, rfl, by decide +kernel, by decide +kernel⟩
theorem ok_Hand_find (T : Txt K mg) {c : Cs} (Z : Cl K mg c) {fd : FuncData} {dV : Value} (F : FunD K "find" "Hand.find" s_Hand_find dV c.Hand_find fd) : FnOk P w K mg base CX0 (2) c.Hand_find fd ["self", "key", "stamp"] (spFind c) := by
  obtain ⟨_, _, N_newest⟩ := T.f_newest
  have G_newest := ok_newest (P := P) (w := w) (base := base) T N_newest
  refine F.okB sc_Hand_find (fun vs H Q E h => ?_) (fun cdv A outer s H vs Q E hr h => ?_)
  · obtain ⟨a, t, g, z, s, rfl, _⟩ := h
    rfl
  · obtain ⟨a, t, g, z, s, rfl, hA, hg, hz, q⟩ := h
    refine ⟨_, (bss_cons (bs_if (bt_cmp (op_notinK (room100 hr)) (bv 1) (be_fld (bv 0)) rfl)
      (bss_one (bs_ret b_non))
      bss_nil)
    (bss_one (bs_ret (b_f N_newest G_newest (hr.mono (by first | decide | omega)) (ba_c (b_t c_listV T.b_list (by kernel_rfl) (ba_c (bm_values (b_dget (hu_of hr) (be_fld (bv 0)) (bv 1) (fun _ _ => rfl))) ba_nil rfl)) (ba_c (bv 1) (ba_c (bv 2) ba_nil rfl) rfl) rfl))))), ?_⟩
    kas_types
    lcg_off
    refine rd_kept Z hA ?_
    lcg_off
    refine rd_notinK hA.tab ?_
    by_cases hk : ∃ p ∈ g, p.1 = z
    · obtain ⟨p, hp, rfl⟩ := hk
      have hvs := val_some hg hp
      rw [hvs]
      lcg_off
      refine ite_f (by simp) ?_
      lcg_off
      refine rd_kept Z hA ?_
      lcg_off
      refine ⟨t, .ref p.2.1, rfl, by rw [← hvs]; exact DGet.k (k := .inr p.1) hA.tab, ?_⟩
      obtain ⟨kvs, i1, i2, i3⟩ := hA.own p hp
      have hkl : kvs.length = p.2.2.length := by have := congrArg List.length i2; rwa [List.length_map, List.length_map] at this
      have hpl := len_inner hp
      lcg_off
      refine rd_bmD i1 ?_
      lcg_off
      refine rd_values i1 (fun r H1 n1 s1 h1 => ?_)
      lcg_off
      refine rd_listV h1 (s1 _ _ i1) (by omega) (fun l H2 n2 s2 h2 => ?_)
      lcg_off
      refine newest_use p.2.2 h2 (ents_stay i3 (.of (s1.trans s2))) (fun v hv => ?_)
      refine q v H2 (s1.trans s2) ?_
      rw [newM_eq (es := p.2.2) (fs := flat g) hg.nd (fun x hx => ?_)] at hv
      · exact hv
      · rw [mem_flat]
        constructor
        · intro h; exact ⟨p, hp, h⟩
        · rintro ⟨q', hq', h⟩
          have e1 := (hg.ent q' hq').1 x h
          rw [hg.one hp hq' (hx.symm.trans e1)]
          exact h
    · have hno : ∀ q ∈ g, q.1 ≠ z := fun q hq y => hk ⟨q, hq, y⟩
      rw [val_none hno]
      lcg_off
      refine ite_t (by simp) ?_
      lcg_off
      refine q _ _ (Same.refl _) ?_
      rw [new_none (fun e he => ?_)]
      · simp only [oE, Rep]
      · obtain ⟨q', hq', h⟩ := mem_flat.mp he
        rw [(hg.ent q' hq').1 e h]
        exact hno q' hq'
theorem hfind_use {c : Cs} {H : Hp} {Q : VK} {E : XK} {a t : Addr} {g : GS} {z : Str} {s : Int} (hA : HandAt c H a t g) (hg : GOk t g) (hz : (flat g).length < 1000) (q : ∀ v H', Same H H' → Rep H' (oE (newM z s (flat g))) v → Q v H') : spFind c [.ref a, .str z, .int s] H Q E := ⟨a, t, g, z, s, rfl, hA, hg, hz, q⟩
def spMany (c : Cs) : Sp := fun vs H Q _ => ∃ (a t : Addr) (g : GS), vs = [.ref a] ∧ HandAt c H a t g ∧ GOk t g ∧ (flat g).length < 1000 ∧ ∀ H', Same H H' → Q (.int ((flat g).length : Nat)) H'
theorem sum_len {g : GS} : (g.map fun q => ((q.2.2.length : Nat) : Int)).sum = ((flat g).length : Nat) := by
  induction g with
  | nil => rfl
  | cons q r ih =>
    have e : (flat (q :: r)).length = q.2.2.length + (flat r).length := by simp only [flat, List.flatMap_cons, List.length_append]
    rw [List.map_cons, List.sum_cons, ih, e]
    omega
theorem sc_Hand_many : FnScope ["self"] ["self"] (defScope s_Hand_many) := ⟨rfl, rfl, rfl, by decide +kernel, rfl, by decide +kernel, by decide +kernel⟩
theorem ok_Hand_many (T : Txt K mg) {c : Cs} (Z : Cl K mg c) {fd : FuncData} {dV : Value} (F : FunD K "many" "Hand.many" s_Hand_many dV c.Hand_many fd) : FnOk P w K mg base CX0 (1) c.Hand_many fd ["self"] (spMany c) := by
  refine F.okB sc_Hand_many (fun vs H Q E h => ?_) (fun cdv A outer s H vs Q E hr h => ?_)
  · obtain ⟨a, t, g, rfl, _⟩ := h
    rfl
  · obtain ⟨a, t, g, rfl, hA, hg, hz, q⟩ := h
    have hgl := len_flat hg
    have hnt : ∀ xs, H t ≠ some (.tup xs) := fun xs z => by rw [hA.tab] at z; cases z
    have hnf : ∀ o u, H t ≠ some (.frz o u) := fun o u z => by rw [hA.tab] at z; cases z
    have hnb : ∀ q ∈ g, q.2.1 ≠ t := fun q hq z => (List.nodup_cons.mp hg.ads).1 (List.mem_map.mpr ⟨q, hq, z⟩)
    refine ⟨_, (bss_one (bs_thaw (bs_ret (b_b c_sumI T.b_sum (by kernel_rfl) (ba_c (b_lc (x := "own") (ix := []) (fv := []) (osc := defScope s_Hand_many) rfl ⟨rfl, by decide +kernel, by decide +kernel, by rfl, by decide +kernel, by decide +kernel, by decide +kernel⟩ (by rfl) (bi_vals (bm_values (be_fld (bv 0)))) (fun _ _ _ _ => bf_nil) (fun _ _ _ _ => (b_b c_lenD T.b_len (by kernel_rfl) (ba_c (bv 0) ba_nil rfl)))) ba_nil rfl))))), ?_⟩
    kas_types
    lcg_off
    refine rd_kept Z hA ?_
    lcg_off
    refine rd_bmD hA.tab ?_
    lcg_off
    refine rd_values hA.tab (fun r H1 n1 s1 h1 => ?_)
    lcg_off
    refine ⟨r, t, _, rfl, h1, s1 _ _ hA.tab, fun o => ?_⟩
    have fz0 : FrzS H t o (.dK (tabG g)) _ := FrzS.mk' s1
    refine lcWw (fun i ys F => FrzS H t o (.dK (tabG g)) F ∧ i ≤ g.length ∧ ys = (g.take i).map fun q => .int ((q.2.2.length : Nat) : Int)) (by rw [tabG_len, sizeLine_eq]; omega) ⟨fz0, Nat.zero_le _, rfl⟩ (fun i ys F h => ⟨h.1.1, by rw [h.2.2, List.length_map, List.length_take]; omega⟩) (fun i k v ys F hv h => ?_) (fun ys p F F1 h hp sp hl => ?_)
    · obtain ⟨f1, f2, rfl⟩ := h
      obtain ⟨hi, rfl, hm⟩ := tab_at hv
      obtain ⟨kvs, i1, i2, i3⟩ := f1.inner hnt (hA.own _ hm) (hnb _ hm)
      have hkl : kvs.length = (g[i]).2.2.length := by have := congrArg List.length i2; rwa [List.length_map, List.length_map] at this
      have hpl := len_inner hm
      lcg_off
      refine rd_lenD i1 (by omega) ?_
      refine ⟨f1, hi, ?_⟩
      rw [List.take_succ_eq_append_getElem hi, List.map_append, hkl]
      rfl
    · obtain ⟨f1, _, rfl⟩ := h
      rw [tabG_len, List.take_length] at hl
      lcg_off
      refine rd_sumI (g.map fun q => ((q.2.2.length : Nat) : Int)) (SqL.of (by rw [hl, List.map_map]; rfl)) ?_
      rw [sum_len]
      exact .inr ⟨t, o, _, (f1.same sp).1, hnf, q _ ((f1.same sp).thaw hA.tab)⟩
theorem many_use {c : Cs} {H : Hp} {Q : VK} {E : XK} {a t : Addr} {g : GS} (hA : HandAt c H a t g) (hg : GOk t g) (hz : (flat g).length < 1000) (q : ∀ H', Same H H' → Q (.int ((flat g).length : Nat)) H') : spMany c [.ref a] H Q E := ⟨a, t, g, rfl, hA, hg, hz, q⟩
def IsMax (es : List Ent) (M : Int) : Prop := (es = [] → M = 0) ∧ (es ≠ [] → (∃ e ∈ es, e.2.1 = M) ∧ ∀ e ∈ es, e.2.1 ≤ M)
def spGreat (c : Cs) : Sp := fun vs H Q _ => ∃ (a t : Addr) (g : GS), vs = [.ref a] ∧ HandAt c H a t g ∧ GOk t g ∧ (flat g).length < 1000 ∧ ∀ M H', IsMax (flat g) M → Same H H' → Q (.int M) H'
theorem sc_Hand_greatest : FnScope ["self"] ["self"] (defScope s_Hand_greatest) := ⟨rfl, rfl, rfl, by decide +kernel, rfl, by decide +kernel, by decide +kernel⟩
theorem ok_Hand_greatest (T : Txt K mg) {c : Cs} (Z : Cl K mg c) {fd : FuncData} {dV : Value} (F : FunD K "greatest" "Hand.greatest" s_Hand_greatest dV c.Hand_greatest fd) : FnOk P w K mg base CX0 (1) c.Hand_greatest fd ["self"] (spGreat c) := by
  refine F.okB sc_Hand_greatest (fun vs H Q E h => ?_) (fun cdv A outer s H vs Q E hr h => ?_)
  · obtain ⟨a, t, g, rfl, _⟩ := h
    rfl
  · obtain ⟨a, t, g, rfl, hA, hg, hz, q⟩ := h
    have hgl := len_flat hg
    have hnt : ∀ xs, H t ≠ some (.tup xs) := fun xs z => by rw [hA.tab] at z; cases z
    have hnf : ∀ o u, H t ≠ some (.frz o u) := fun o u z => by rw [hA.tab] at z; cases z
    have hnb : ∀ q ∈ g, q.2.1 ≠ t := fun q hq z => (List.nodup_cons.mp hg.ads).1 (List.mem_map.mpr ⟨q, hq, z⟩)
    refine ⟨_, (bss_one (bs_thaw (bs_ret (b_maxD T.b_max (ba_c (b_lc (x := "own") (ix := []) (fv := []) (osc := defScope s_Hand_greatest) rfl ⟨rfl, by decide +kernel, by decide +kernel, by rfl, by decide +kernel, by decide +kernel, by decide +kernel⟩ (by rfl) (bi_vals (bm_values (be_fld (bv 0)))) (fun _ _ _ _ => bf_nil) (fun _ _ _ _ => (b_b (c_maxK rfl) T.b_max (by kernel_rfl) (ba_c ((bm_keysK (K := K) rfl) (bv 0)) ba_nil rfl)))) ba_nil rfl) b_int)))), ?_⟩
    kas_types
    lcg_off
    refine rd_kept Z hA ?_
    lcg_off
    refine rd_bmD hA.tab ?_
    lcg_off
    refine rd_values hA.tab (fun r H1 n1 s1 h1 => ?_)
    lcg_off
    refine ⟨r, t, _, rfl, h1, s1 _ _ hA.tab, fun o => ?_⟩
    have fz0 : FrzS H t o (.dK (tabG g)) _ := FrzS.mk' s1
    refine lcWw (fun i ys F => FrzS H t o (.dK (tabG g)) F ∧ ∃ ms : List Int, ys = ms.map V.int ∧ ms.length = i ∧ (∀ m ∈ ms, ∃ e ∈ flat g, e.2.1 = m) ∧ ∀ e ∈ flat (g.take i), ∃ m ∈ ms, e.2.1 ≤ m) (by rw [tabG_len, sizeLine_eq]; omega) ⟨fz0, [], rfl, rfl, fun m hm => (by cases hm), fun e he => (by cases he)⟩ (fun i ys F h => ⟨h.1.1, by obtain ⟨_, ms, rfl, h2, _⟩ := h; rw [List.length_map, h2]⟩) (fun i k v ys F hv h => ?_) (fun ys p F F1 h hp sp hl => ?_)
    · obtain ⟨f1, ms, rfl, hml, ha1, ha2⟩ := h
      obtain ⟨hi, rfl, hm⟩ := tab_at hv
      obtain ⟨kvs, i1, i2, i3⟩ := f1.inner hnt (hA.own _ hm) (hnb _ hm)
      lcg_off
      refine rd_bmD i1 ?_
      lcg_off
      refine rd_keys i1 (fun r2 F2 n2 s2 h2 => ?_)
      lcg_off
      refine rd_maxK ((g[i]).2.2.map (·.2.1)) h2 (s2 _ _ i1) (by rw [i2, List.map_map]; rfl) (by rw [List.length_map]; exact List.length_pos_iff.mpr (hg.ent _ hm).2.2) (fun M hM hle => ?_)
      refine ⟨f1.same s2, ms ++ [M], by rw [List.map_append]; rfl, by rw [List.length_append, hml]; rfl, fun m hm' => ?_, fun e he => ?_⟩
      · rcases List.mem_append.mp hm' with h | h
        · exact ha1 m h
        · rw [List.mem_singleton.mp h]
          obtain ⟨e, he, e2⟩ := List.mem_map.mp hM
          exact ⟨e, mem_flat.mpr ⟨_, hm, he⟩, e2⟩
      · rw [take_flat hi] at he
        rcases List.mem_append.mp he with h | h
        · obtain ⟨m, h1, h2⟩ := ha2 e h
          exact ⟨m, List.mem_append.mpr (.inl h1), h2⟩
        · exact ⟨M, List.mem_append.mpr (.inr List.mem_cons_self), hle _ (List.mem_map.mpr ⟨e, h, rfl⟩)⟩
    · obtain ⟨f1, ms, rfl, hml, ha1, ha2⟩ := h
      rw [tabG_len, List.take_length] at ha2
      rw [tabG_len] at hml
      lcg_off
      refine rd_maxD ms (SqL.of hl) (fun hn => ?_) (fun M hM hle => ?_)
      · refine .inr ⟨t, o, _, (f1.same sp).1, hnf, q 0 _ ⟨fun _ => rfl, fun hne => ?_⟩ ((f1.same sp).thaw hA.tab)⟩
        obtain ⟨e, he⟩ := List.exists_mem_of_ne_nil _ hne
        obtain ⟨m, h1, _⟩ := ha2 e he
        rw [hn] at h1
        cases h1
      · refine .inr ⟨t, o, _, (f1.same sp).1, hnf, q M _ ⟨fun he => ?_, fun hne => ⟨ha1 M hM, fun e he => ?_⟩⟩ ((f1.same sp).thaw hA.tab)⟩
        · obtain ⟨e, h1, _⟩ := ha1 M hM
          rw [he] at h1
          cases h1
        · obtain ⟨m, h1, h2⟩ := ha2 e he
          exact Int.le_trans h2 (hle m h1)
theorem great_use {c : Cs} {H : Hp} {Q : VK} {E : XK} {a t : Addr} {g : GS} (hA : HandAt c H a t g) (hg : GOk t g) (hz : (flat g).length < 1000) (q : ∀ M H', IsMax (flat g) M → Same H H' → Q (.int M) H') : spGreat c [.ref a] H Q E := ⟨a, t, g, rfl, hA, hg, hz, q⟩
def spRows (c : Cs) : Sp := fun vs H Q _ => ∃ (a t : Addr) (g : GS), vs = [.ref a] ∧ HandAt c H a t g ∧ GOk t g ∧ (flat g).length < 1000 ∧ ∀ ys fs l H1, fs.Perm (flat g) → Rises fs → H l = none → Same H H1 → H1 l = some (.lst ys) → Reps H1 (fs.map entD) ys → Q (.ref l) H1
theorem Reps.app {H : Hp} : ∀ {ds es : List D} {vs us : List V}, Reps H ds vs → Reps H es us → Reps H (ds ++ es) (vs ++ us)
  | [], es, vs, us, h, h' => by
    simp only [Reps] at h
    subst h
    exact h'
  | d :: ds, es, vs, us, h, h' => by
    simp only [Reps] at h
    obtain ⟨u, r, rfl, h1, h2⟩ := h
    exact Reps.cons' h1 (Reps.app h2 h')
theorem reps_len {H : Hp} {es : List Ent} {vs : List V} (h : Reps H (es.map entD) vs) : vs.length = es.length := by
  obtain ⟨L, l1, l2, _⟩ := reps_pairs h
  rw [← l1, ← l2, List.length_map, List.length_map]
theorem sc_Hand_rows : FnScope ["self", "entries", "own"] ["self"] (defScope s_Hand_rows) := ⟨rfl, rfl, rfl, by decide +kernel, rfl, by decide +kernel, by decide +kernel⟩
theorem ok_Hand_rows (T : Txt K mg) {c : Cs} (Z : Cl K mg c) {fd : FuncData} {dV : Value} (F : FunD K "rows" "Hand.rows" s_Hand_rows dV c.Hand_rows fd) : FnOk P w K mg base CX0 (5) c.Hand_rows fd ["self"] (spRows c) := by
  obtain ⟨_, _, N_in_order⟩ := T.f_in_order
  have G_in_order := ok_in_order (P := P) (w := w) (base := base) T N_in_order
  refine F.okB sc_Hand_rows (fun vs H Q E h => ?_) (fun cdv A outer s H vs Q E hr h => ?_)
  · obtain ⟨a, t, g, rfl, _⟩ := h
    rfl
  · obtain ⟨a, t, g, rfl, hA, hg, hz, q⟩ := h
    have hgl := len_flat hg
    have hnt : ∀ xs, H t ≠ some (.tup xs) := fun xs z => by rw [hA.tab] at z; cases z
    have hnf : ∀ o u, H t ≠ some (.frz o u) := fun o u z => by rw [hA.tab] at z; cases z
    have hnb : ∀ q ∈ g, q.2.1 ≠ t := fun q hq z => (List.nodup_cons.mp hg.ads).1 (List.mem_map.mpr ⟨q, hq, z⟩)
    refine ⟨_, (bss_cons (bs_set (i := 1) sc_Hand_rows.nd rfl (by first | exact Or.inl rfl | exact Or.inr rfl) (b_lst ba_nil))
    (bss_cons (bs_thaw (bs_for PassesOwn.leaving rfl (bi_vals (bm_values (be_fld (bv 0)))) (bg_name (i := 2) sc_Hand_rows.nd rfl (by first | exact Or.inl rfl | exact Or.inr rfl))
      (bss_one (bs_expr (bm_extend (bv 1) (ba_c (b_t c_listV T.b_list (by kernel_rfl) (ba_c (bm_values (bv 2)) ba_nil rfl)) ba_nil rfl))))))
    (bss_one (bs_ret (b_f N_in_order G_in_order (hr.mono (by first | decide | omega)) (ba_c (bv 1) ba_nil rfl)))))), ?_⟩
    kas_types
    lcg_off
    rename_i l Hl hl0 sl hl
    have hA0 := hA.same sl
    refine rd_kept Z hA0 ?_
    lcg_off
    refine rd_bmD hA0.tab ?_
    lcg_off
    refine rd_values hA0.tab (fun r H1 n1 s1 h1 => ?_)
    lcg_off
    refine ⟨r, t, _, rfl, h1, s1 _ _ hA0.tab, fun o => ?_⟩
    have fz0 : FrzS H t o (.dK (tabG g)) (upd H1 t (.frz o (.dK (tabG g)))) := FrzS.mk' (sl.trans s1)
    have hlt : l ≠ t := fun z => by have := hA.tab; rw [← z, hl0] at this; cases this
    refine forW2 (fun i σ F => ∃ (xs : List V) (o1 : Option V), σ = [some (.ref a), some (.ref l), o1] ∧ FrzS H t o (.dK (tabG g)) F ∧ F l = some (.lst xs) ∧ Reps F ((flat (g.take i)).map entD) xs) ⟨[], none, rfl, fz0, by rw [upd_ne hlt]; exact s1 _ _ hl, Reps.nil'⟩ (fun i σ F h => by obtain ⟨_, _, rfl, h, _⟩ := h; exact h.1) (fun i k v σ F hv h => ?_) (fun σ F h => ?_)
    · obtain ⟨xs, o1, rfl, f1, f2, f3⟩ := h
      obtain ⟨hi, rfl, hm⟩ := tab_at hv
      obtain ⟨kvs, i1, i2, i3⟩ := f1.inner hnt (hA.own _ hm) (hnb _ hm)
      have hkl : kvs.length = (g[i]).2.2.length := by have := congrArg List.length i2; rwa [List.length_map, List.length_map] at this
      have hpl := len_inner hm
      have hxl := reps_len f3
      have htl : (flat (g.take i)).length ≤ (flat g).length := by
        have e : flat g = flat (g.take i) ++ flat (g.drop i) := by
          have := congrArg flat (List.take_append_drop i g)
          rw [← this]
          simp only [flat, List.flatMap_append]
        rw [e, List.length_append]
        omega
      lcg_off
      refine rd_bmD i1 ?_
      lcg_off
      refine rd_values i1 (fun r2 F2 n2 s2 h2 => ?_)
      lcg_off
      refine rd_listV h2 (s2 _ _ i1) (by omega) (fun p3 F3 n3 s3 h3 => ?_)
      have s23 : Same F F3 := s2.trans s3
      lcg_off
      refine rd_extend (s23 _ _ f2) h3 (by rw [hxl, List.length_map, sizeLine_eq]; omega) ?_
      lcg_off
      have tu : Tups F3 (upd F3 l (.lst (xs ++ kvs.map (·.2)))) := Tups.upd fun ys z => by rw [s23 _ _ f2] at z; cases z
      refine ⟨_, _, rfl, (f1.same s23).upd hl0 (by rw [hA.tab]; simp), upd_same, ?_⟩
      rw [take_flat hi, List.map_append]
      exact Reps.app (ents_stay f3 ((Tups.of s23).trans tu)) (ents_stay i3 ((Tups.of s23).trans tu))
    · obtain ⟨xs, o1, rfl, f1, f2, f3⟩ := h
      rw [tabG_len, List.take_length] at f3
      have sT := f1.thaw hA.tab
      refine .inr ⟨t, o, _, f1.1, hnf, ?_⟩
      have f4 : upd F t (.dK (tabG g)) l = some (.lst xs) := by rw [upd_ne hlt]; exact f2
      have f5 : Reps (upd F t (.dK (tabG g))) ((flat g).map entD) xs := ents_stay f3 (Tups.upd fun ys z => by rw [f1.1] at z; cases z)
      generalize upd F t (.dK (tabG g)) = F' at *
      lcg_off
      refine order_use (flat g) f4 f5 hg.nd hz (fun xs' es' l' H2 p1 p2 p3 p4 p5 p6 => ?_)
      exact q xs' es' l' H2 p1 p2 (sT.free p3) (sT.trans p4) p5 p6
theorem rows_use {c : Cs} {H : Hp} {Q : VK} {E : XK} {a t : Addr} {g : GS} (hA : HandAt c H a t g) (hg : GOk t g) (hz : (flat g).length < 1000) (q : ∀ ys fs l H1, fs.Perm (flat g) → Rises fs → H l = none → Same H H1 → H1 l = some (.lst ys) → Reps H1 (fs.map entD) ys → Q (.ref l) H1) : spRows c [.ref a] H Q E := ⟨a, t, g, rfl, hA, hg, hz, q⟩
def spBetw (c : Cs) : Sp := fun vs H Q _ => ∃ (a t : Addr) (g : GS) (lo : Str) (hi : Option Str), vs = [.ref a, .str lo, hiV hi] ∧ HandAt c H a t g ∧ GOk t g ∧ (flat g).length < 1000 ∧ ∀ ys fs l H1, fs.Perm (flat g) → Rises fs → H l = none → Same H H1 → H1 l = some (.lst ys) → Reps H1 ((fs.filter (inS lo hi)).map entD) ys → Q (.ref l) H1
theorem sc_Hand_between : FnScope ["self", "low", "high"] ["self", "low", "high"] (defScope s_Hand_between) := ⟨rfl, rfl, rfl, by decide +kernel, rfl, by decide +kernel, by decide +kernel⟩
theorem ok_Hand_between (T : Txt K mg) {c : Cs} (Z : Cl K mg c) {fd : FuncData} {dV : Value} (F : FunD K "between" "Hand.between" s_Hand_between dV c.Hand_between fd) : FnOk P w K mg base CX0 (6) c.Hand_between fd ["self", "low", "high"] (spBetw c) := by
  obtain ⟨_, _, F_Hand_rows, ⟨_, hv0_Hand_rows, hb0_Hand_rows⟩⟩ := Z.i_Hand_rows
  have G_Hand_rows := ok_Hand_rows (P := P) (w := w) (base := base) T Z F_Hand_rows
  obtain ⟨_, _, N_stretch⟩ := T.f_stretch
  have G_stretch := ok_stretch (P := P) (w := w) (base := base) T N_stretch
  refine F.okB sc_Hand_between (fun vs H Q E h => ?_) (fun cdv A outer s H vs Q E hr h => ?_)
  · obtain ⟨a, t, g, lo, hi, rfl, _⟩ := h
    rfl
  · obtain ⟨a, t, g, lo, hi, rfl, hA, hg, hz, q⟩ := h
    refine ⟨_, (bss_one (bs_ret (b_f N_stretch G_stretch (hr.mono (by first | decide | omega)) (ba_c (b_m0 Z.c_Hand Z.me_Hand_rows G_Hand_rows pass0 hb0_Hand_rows hv0_Hand_rows (hr.mono (by first | decide | omega)) (bv 0)) (ba_c (bv 1) (ba_c (bv 2) ba_nil rfl) rfl) rfl)))), ?_⟩
    kas_types
    lcg_off
    refine rd_meth hA rfl ?_
    lcg_off
    refine rows_use hA hg hz (fun ys fs l H1 p1 p2 p3 s1 p5 p6 => ?_)
    lcg_off
    refine stretch_use hi fs p5 p6 (by rw [p1.length_eq]; exact hz) (fun l2 H2 zs n2 s2 h2 r2 => ?_)
    exact q zs fs l2 H2 p1 p2 (s1.free n2) (s1.trans s2) h2 r2
theorem betw_use {c : Cs} {H : Hp} {Q : VK} {E : XK} {a t : Addr} {g : GS} {lo : Str} {w : V} (hi : Option Str) (hw : w = hiV hi) (hA : HandAt c H a t g) (hg : GOk t g) (hz : (flat g).length < 1000) (q : ∀ ys fs l H1, fs.Perm (flat g) → Rises fs → H l = none → Same H H1 → H1 l = some (.lst ys) → Reps H1 ((fs.filter (inS lo hi)).map entD) ys → Q (.ref l) H1) : spBetw c [.ref a, .str lo, w] H Q E := ⟨a, t, g, lo, hi, by rw [hw], hA, hg, hz, q⟩
end
section
variable {P : Program} {w : World} {K : PySem.W.Frag} {mg : Str → Option Value} {base : Heap}
def KeepX (ph : Addr) (H H' : Hp) : Prop := ∀ b o, b ≠ ph → H b = some o → H' b = some o
theorem KeepX.of {ph : Addr} {H H' : Hp} (s : Same H H') : KeepX ph H H' := fun b o _ e => s b o e
theorem KeepX.trans {ph : Addr} {H H' H'' : Hp} (h : KeepX ph H H') (h' : KeepX ph H' H'') : KeepX ph H H'' := fun b o n e => h' b o n (h b o n e)
theorem KeepX.upd {ph : Addr} {H : Hp} {o : HO} : KeepX ph H (upd H ph o) := fun b _ n e => by rw [upd_ne n]; exact e
def Held1 (S : Addr → Prop) (G : Hp) (v : V) : Prop := ∃ (b p q : Addr) (xs ys : List V) (es : List Ent), v = .ref b ∧ ¬ S b ∧ ¬ S p ∧ ¬ S q ∧ G b = some (.lst [.ref p, .ref q]) ∧ G p = some (.lst xs) ∧ G q = some (.lst ys) ∧ Reps G (es.map entD) xs ∧ Reps G (es.map entD) ys
def Held (S : Addr → Prop) (G : Hp) (hs : List V) : Prop := ∀ v ∈ hs, Held1 S G v
theorem Held.keep {S : Addr → Prop} {G G' : Hp} {hs : List V} (h : Held S G hs) (k : ∀ b xs, ¬ S b → G b = some (.lst xs) → G' b = some (.lst xs)) (t : Tups G G') : Held S G' hs := fun v hv => by
  obtain ⟨b, p, q, xs, ys, es, e, n1, n2, n3, gb, gp, gq, r1, r2⟩ := h v hv
  exact ⟨b, p, q, xs, ys, es, e, n1, n2, n3, k _ _ n1 gb, k _ _ n2 gp, k _ _ n3 gq, ents_stay r1 t, ents_stay r2 t⟩
theorem Held.snoc {S : Addr → Prop} {G : Hp} {hs : List V} {v : V} (h : Held S G hs) (h1 : Held1 S G v) : Held S G (hs ++ [v]) := fun u hu => by
  rcases List.mem_append.mp hu with h2 | h2
  · exact h u h2
  · rw [List.mem_singleton.mp h2]; exact h1
structure AskOk (c : Cs) (S : Addr → Prop) (H : Hp) (a t r pk ph : Addr) (g : GS) (rs : List Ent) (ks : List Str) (hs : List V) : Prop where
  hand : HandAt c H a t g
  ok : GOk t g
  rows : ∃ xs, H r = some (.lst xs) ∧ Reps H (rs.map entD) xs
  nd : (rs.map rkE).Nodup
  all : ∀ x, x ∈ flat g ↔ x ∈ rs
  few : rs.length < 1000
  pos : ∀ e ∈ rs, 1 ≤ e.2.1
  keys : H pk = some (.lst (ks.map V.str))
  one : 1 ≤ ks.length
  most : ks.length ≤ 51
  good : ∀ z ∈ ks, okT z
  held : H ph = some (.lst hs)
  each : Held S H hs
  sph : S ph
  sall : ∀ b, S b → H b ≠ none
  nr : r ≠ ph
  nk : pk ≠ ph
theorem AskOk.perm {c : Cs} {S : Addr → Prop} {H : Hp} {a t r pk ph : Addr} {g : GS} {rs : List Ent} {ks : List Str} {hs : List V} (W : AskOk c S H a t r pk ph g rs ks hs) : (flat g).Perm rs :=
  (List.perm_ext_iff_of_nodup (nodup_of_map W.ok.nd) (nodup_of_map W.nd)).mpr W.all
theorem AskOk.len {c : Cs} {S : Addr → Prop} {H : Hp} {a t r pk ph : Addr} {g : GS} {rs : List Ent} {ks : List Str} {hs : List V} (W : AskOk c S H a t r pk ph g rs ks hs) : (flat g).length < 1000 := by rw [W.perm.length_eq]; exact W.few
theorem AskOk.same {c : Cs} {S : Addr → Prop} {H H' : Hp} {a t r pk ph : Addr} {g : GS} {rs : List Ent} {ks : List Str} {hs : List V} (W : AskOk c S H a t r pk ph g rs ks hs) (s : Same H H') : AskOk c S H' a t r pk ph g rs ks hs := by
  obtain ⟨xs, h1, h2⟩ := W.rows
  exact ⟨W.hand.same s, W.ok, ⟨xs, s _ _ h1, h2.same s⟩, W.nd, W.all, W.few, W.pos, s _ _ W.keys, W.one, W.most, W.good, s _ _ W.held, W.each.keep (fun b xs _ e => s _ _ e) (.of s), W.sph, fun b hb => (fun z => W.sall b hb (s.free z)), W.nr, W.nk⟩
theorem AskOk.more {c : Cs} {S : Addr → Prop} {H : Hp} {a t r pk ph : Addr} {g : GS} {rs : List Ent} {ks : List Str} {hs : List V} {v : V} (W : AskOk c S H a t r pk ph g rs ks hs) (h1 : Held1 S H v) : AskOk c S (upd H ph (.lst (hs ++ [v]))) a t r pk ph g rs ks (hs ++ [v]) := by
  have k : KeepX ph H (upd H ph (.lst (hs ++ [v]))) := KeepX.upd
  have tu : Tups H (upd H ph (.lst (hs ++ [v]))) := Tups.upd fun ys z => by rw [W.held] at z; cases z
  obtain ⟨xs, r1, r2⟩ := W.rows
  refine ⟨W.hand.other (S := [ph]) (fun b o n e => k b o (fun z => n (List.mem_singleton.mpr z)) e) tu (fun b hb z => W.hand.notL W.held (List.mem_singleton.mp z ▸ hb)), W.ok, ⟨xs, k _ _ W.nr r1, ents_stay r2 tu⟩, W.nd, W.all, W.few, W.pos, k _ _ W.nk W.keys, W.one, W.most, W.good, upd_same, ?_, W.sph, fun b hb => ?_, W.nr, W.nk⟩
  · exact (W.each.snoc h1).keep (fun b xs n e => k b _ (fun z => n (z ▸ W.sph)) e) tu
  · by_cases z : b = ph
    · rw [z, upd_same]; simp
    · rw [upd_ne z]; exact W.sall b hb
theorem inS_low {e : Ent} : inS (Str.ofString "") none e = true := by
  unfold inS
  have h : ¬ e.1.cps.toList < (Str.ofString "").cps.toList := by
    rw [show (Str.ofString "").cps.toList = [] by decide +kernel]
    exact List.not_lt_nil _
  rw [decide_eq_false h]
  rfl
theorem filter_low {es : List Ent} : es.filter (inS (Str.ofString "") none) = es := List.filter_eq_self.mpr fun e _ => inS_low
theorem entD_dep (e : Ent) : (entD e).dep ≤ 1 := by
  unfold entD
  cases e.2.2 <;> simp [oD, D.dep, D.deps]
theorem entsD_dep : ∀ es : List Ent, D.deps (es.map entD) ≤ 1
  | [] => by simp [D.deps]
  | e :: es => by
    have := entsD_dep es
    have := entD_dep e
    simp only [List.map_cons, D.deps]
    omega
theorem rd_neE {H : Hp} {Q : VK} {p p' : Addr} {xs ys : List V} (es : List Ent) (h1 : H p = some (.lst xs)) (h2 : H p' = some (.lst ys)) (r1 : Reps H (es.map entD) xs) (r2 : Reps H (es.map entD) ys) (q : Q (.bl false) H) : rNeD (.ref p) (.ref p') H Q := by
  refine ⟨.lst (es.map entD), .lst (es.map entD), Rep.mkL h1 r1, Rep.mkL h2 r2, ?_, ?_, by rw [pyEq_refl]; exact q⟩
  all_goals (have := entsD_dep es; simp only [D.dep]; omega)
theorem rd_eqE {H : Hp} {Q : VK} {p p' : Addr} {xs ys : List V} (es : List Ent) (h1 : H p = some (.lst xs)) (h2 : H p' = some (.lst ys)) (r1 : Reps H (es.map entD) xs) (r2 : Reps H (es.map entD) ys) (q : Q (.bl true) H) : rEqD (.ref p) (.ref p') H Q := by
  refine ⟨.lst (es.map entD), .lst (es.map entD), Rep.mkL h1 r1, Rep.mkL h2 r2, ?_, ?_, by rw [pyEq_refl]; exact q⟩
  all_goals (have := entsD_dep es; simp only [D.dep]; omega)
theorem rd_neO {H : Hp} {Q : VK} {v u : V} (o : Option Ent) (h1 : Rep H (oE o) v) (h2 : Rep H (oE o) u) (q : Q (.bl false) H) : rNeD v u H Q := by
  refine ⟨oE o, oE o, h1, h2, ?_, ?_, by rw [pyEq_refl]; exact q⟩
  all_goals (cases o with
    | none => simp [oE, D.dep]
    | some e => have := entD_dep e; simp only [oE]; omega)
def Told (GI G : Hp) (tl : Addr) : Prop := G tl = some (.lst []) ∨ ∃ (p1 p2 : Addr) (xs ys : List V) (es : List Ent), G tl = some (.lst [.ref p1, .ref p2]) ∧ tl ≠ p1 ∧ GI p1 = none ∧ G p1 = some (.lst xs) ∧ G p2 = some (.lst ys) ∧ Reps G (es.map entD) xs ∧ Reps G (es.map entD) ys ∧ es.length < 1000
theorem max_eq {es rs : List Ent} {M M' : Int} (h : IsMax es M') (ha : ∀ x, x ∈ es ↔ x ∈ rs) (hp : ∀ e ∈ rs, 1 ≤ e.2.1) (hM : M ∈ 0 :: rs.map (·.2.1)) (hle : ∀ b ∈ 0 :: rs.map (·.2.1), b ≤ M) : M' = M := by
  by_cases he : es = []
  · rw [h.1 he]
    rcases List.mem_cons.mp hM with rfl | hM
    · rfl
    · obtain ⟨e, h1, _⟩ := List.mem_map.mp hM
      have := (ha e).mpr h1
      rw [he] at this
      cases this
  · obtain ⟨⟨e, h1, h2⟩, h3⟩ := h.2 he
    have k1 := hle e.2.1 (List.mem_cons_of_mem _ (List.mem_map.mpr ⟨e, (ha e).mp h1, rfl⟩))
    have k0 := hp e ((ha e).mp h1)
    rcases List.mem_cons.mp hM with rfl | hM
    · omega
    · obtain ⟨f, f1, f2⟩ := List.mem_map.mp hM
      have k2 := h3 f ((ha f).mpr f1)
      omega
theorem rd_neN {H : Hp} {Q : VK} {p p' : Addr} (h1 : H p = some (.lst [])) (h2 : H p' = some (.lst [])) (q : Q (.bl false) H) : rNeD (.ref p) (.ref p') H Q := rd_neE [] h1 h2 Reps.nil' Reps.nil' q
theorem rd_neY {H : Hp} {Q : VK} {p p' p1 p2 : Addr} {xs ys : List V} (es : List Ent) (h1 : H p = some (.lst [.ref p1, .ref p2])) (h2 : H p' = some (.lst [])) (g1 : H p1 = some (.lst xs)) (g2 : H p2 = some (.lst ys)) (r1 : Reps H (es.map entD) xs) (r2 : Reps H (es.map entD) ys) (q : Q (.bl true) H) : rNeD (.ref p) (.ref p') H Q := by
  refine ⟨.lst [.lst (es.map entD), .lst (es.map entD)], .lst [], Rep.mkL h1 (Reps.cons' (Rep.mkL g1 r1) (Reps.cons' (Rep.mkL g2 r2) Reps.nil')), Rep.mkL h2 Reps.nil', ?_, ?_, ?_⟩
  · have := entsD_dep es
    simp only [D.dep, D.deps]
    omega
  · simp [D.dep, D.deps]
  · rw [show pyEq (.lst [.lst (es.map entD), .lst (es.map entD)]) (.lst []) = false by simp [pyEq, pyEqs]]
    exact q
end
section
variable {P : Program} {w : World} {K : PySem.W.Frag} {mg : Str → Option Value} {base : Heap}
def spAsk (c : Cs) : Sp := fun vs H Q _ => ∃ (a t r pk ph : Addr) (n : Int) (S : Addr → Prop) (g : GS) (rs : List Ent) (ks : List Str) (hs : List V), vs = [.ref a, .ref r, .ref pk, .int n, .ref ph] ∧ AskOk c S H a t r pk ph g rs ks hs ∧ hs.length ≤ 4000 ∧
  ∀ H' hs', KeepX ph H H' → AskOk c S H' a t r pk ph g rs ks hs' → hs'.length ≤ hs.length + 6 → Q (.bl true) H'
theorem sc__law_asked : FnScope ["_law_hand", "_law_rows", "_law_keys_here", "_law_number", "_law_held", "_law_due", "_law_way", "_law_key", "_law_stamp", "_law_greatest", "_law_low", "_law_high", "_law_told"] ["_law_hand", "_law_rows", "_law_keys_here", "_law_number", "_law_held"] (defScope s__law_asked) := ⟨rfl, rfl, rfl, by decide +kernel, rfl, by decide +kernel, by decide +kernel⟩
theorem ok__law_asked (T : Txt K mg) {c : Cs} (Z : Cl K mg c) {f : Addr} {fd : FuncData} (N : Fn K mg "_law_asked" s__law_asked ["_law_hand", "_law_rows", "_law_keys_here", "_law_number", "_law_held"] f fd) : FnOk P w K mg base CX0 (8) f fd ["_law_hand", "_law_rows", "_law_keys_here", "_law_number", "_law_held"] (spAsk c) := by
  obtain ⟨_, _, N__law_in_order⟩ := T.f__law_in_order
  have G__law_in_order := ok__law_in_order (P := P) (w := w) (base := base) T N__law_in_order 
  obtain ⟨_, _, N__law_found⟩ := T.f__law_found
  have G__law_found := ok__law_found (P := P) (w := w) (base := base) T N__law_found 
  obtain ⟨_, _, F_Hand_rows, ⟨_, hv0_Hand_rows, hb0_Hand_rows⟩⟩ := Z.i_Hand_rows
  have G_Hand_rows := ok_Hand_rows (P := P) (w := w) (base := base) T Z F_Hand_rows
  obtain ⟨_, _, F_Hand_between, ⟨_, hv0_Hand_between, hb0_Hand_between⟩, ⟨_, hv1_Hand_between, hb1_Hand_between⟩, ⟨_, hv2_Hand_between, hb2_Hand_between⟩⟩ := Z.i_Hand_between
  have G_Hand_between := ok_Hand_between (P := P) (w := w) (base := base) T Z F_Hand_between
  obtain ⟨_, _, F_Hand_find, ⟨_, hv0_Hand_find, hb0_Hand_find⟩⟩ := Z.i_Hand_find
  have G_Hand_find := ok_Hand_find (P := P) (w := w) (base := base) T Z F_Hand_find
  obtain ⟨_, _, F_Hand_many, ⟨_, hv0_Hand_many, hb0_Hand_many⟩⟩ := Z.i_Hand_many
  have G_Hand_many := ok_Hand_many (P := P) (w := w) (base := base) T Z F_Hand_many
  obtain ⟨_, _, F_Hand_greatest, ⟨_, hv0_Hand_greatest, hb0_Hand_greatest⟩⟩ := Z.i_Hand_greatest
  have G_Hand_greatest := ok_Hand_greatest (P := P) (w := w) (base := base) T Z F_Hand_greatest
  refine N.fu.okB sc__law_asked (fun vs H Q E h => ?_) (fun cdv A outer s H vs Q E hr h => ?_)
  · obtain ⟨a, t, r, pk, ph, n, S, g, rs, ks, hs, rfl, _⟩ := h
    rfl
  · obtain ⟨a, t, r, pk, ph, n, S, g, rs, ks, hs, rfl, W, hl, q⟩ := h
    obtain ⟨xs0, hr0, hrs0⟩ := W.rows
    have hks := W.one
    refine ⟨_, (bss_cons (bs_set (i := 5) sc__law_asked.nd rfl (by first | exact Or.inl rfl | exact Or.inr rfl) (b_f N__law_in_order G__law_in_order (hr.mono (by first | decide | omega)) (ba_c (bv 1) ba_nil rfl)))
    (bss_cons (bs_for PassesOwn.never rfl (bi_list (b_lc (x := "_law_k") (ix := [3]) (fv := ["_law_number"]) (osc := defScope s__law_asked) rfl ⟨rfl, by decide +kernel, by decide +kernel, by rfl, by decide +kernel, by decide +kernel, by decide +kernel⟩ (by rfl) (bi_r1 T.b_range (ba_c b_int ba_nil rfl)) (fun _ _ _ _ => bf_nil) (fun _ _ _ _ => (b_op op_mod (b_op (o_addK (K := K) rfl) (bv 1) (bv 0)) b_int)))) (bg_name (i := 6) sc__law_asked.nd rfl (by first | exact Or.inl rfl | exact Or.inr rfl))
      (bss_cons (bs_set (i := 7) sc__law_asked.nd rfl (by first | exact Or.inl rfl | exact Or.inr rfl) (b_ix ix_seq (bv 2) (b_op op_mod (b_op op_fdiv (bv 3) b_int) (b_b c_len T.b_len (by kernel_rfl) (ba_c (bv 2) ba_nil rfl))) (fun _ _ => rfl)))
    (bss_cons (bs_set (i := 8) sc__law_asked.nd rfl (by first | exact Or.inl rfl | exact Or.inr rfl) (b_ix ix_seq (b_lst (ba_c (b_op op_mod (b_op op_fdiv (bv 3) b_int) b_int) (ba_c (b_op op_mod (bv 3) (b_op op_pow b_int b_int)) (ba_c (b_op op_sub (b_op op_pow b_int b_int) b_int) ba_nil rfl) rfl) rfl)) (b_op op_mod (b_op op_fdiv (bv 3) b_int) b_int) (fun _ _ => rfl)))
    (bss_cons (bs_if (bt_w (bw_and (bt_cmp (o_eqD (room100 hr)) (bv 6) b_int (nomark _)) (bw_and1 (bt_cmp (o_neD (room100 hr)) (b_m Z.c_Hand Z.me_Hand_find G_Hand_find pass0 hb0_Hand_find hv0_Hand_find (hr.mono (by first | decide | omega)) (bv 0) (ba_c (bv 7) (ba_c (bv 8) ba_nil rfl) rfl)) (b_f N__law_found G__law_found (hr.mono (by first | decide | omega)) (ba_c (bv 1) (ba_c (bv 7) (ba_c (bv 8) ba_nil rfl) rfl) rfl)) (nomark _)))))
      (bss_one (bs_ret b_bl))
      bss_nil)
    (bss_cons (bs_set (i := 9) sc__law_asked.nd rfl (by first | exact Or.inl rfl | exact Or.inr rfl) (b_b c_maxL T.b_max (by kernel_rfl) (ba_c (b_op o_add (b_lst (ba_c b_int ba_nil rfl)) (b_lc (x := "_law_row_here") (ix := []) (fv := []) (osc := defScope s__law_asked) rfl ⟨rfl, by decide +kernel, by decide +kernel, by rfl, by decide +kernel, by decide +kernel, by decide +kernel⟩ (by rfl) (bi_list (bv 1)) (fun _ _ _ _ => bf_nil) (fun _ _ _ _ => (b_ix (ix_seqK (K := K) rfl) (bv 0) b_int (fun _ _ => rfl))))) ba_nil rfl)))
    (bss_cons (bs_if (bt_w (bw_and (bt_cmp (o_eqD (room100 hr)) (bv 6) b_int (nomark _)) (bw_and1 (bt_w (bw_or (bt_cmp (o_neD (room100 hr)) (b_m0 Z.c_Hand Z.me_Hand_many G_Hand_many pass0 hb0_Hand_many hv0_Hand_many (hr.mono (by first | decide | omega)) (bv 0)) (b_b c_len T.b_len (by kernel_rfl) (ba_c (bv 1) ba_nil rfl)) (nomark _)) (bw_or1 (bt_cmp (o_neD (room100 hr)) (b_m0 Z.c_Hand Z.me_Hand_greatest G_Hand_greatest pass0 hb0_Hand_greatest hv0_Hand_greatest (hr.mono (by first | decide | omega)) (bv 0)) (bv 9) (nomark _))))))))
      (bss_one (bs_ret b_bl))
      bss_nil)
    (bss_cons (bs_set (i := 10) sc__law_asked.nd rfl (by first | exact Or.inl rfl | exact Or.inr rfl) (b_slice s_any (b_ix ix_seq (bv 2) (b_op op_mod (b_op op_fdiv (bv 3) b_int) (b_b c_len T.b_len (by kernel_rfl) (ba_c (bv 2) ba_nil rfl))) (fun _ _ => rfl)) bo_none (bo_some (b_op op_mod (bv 3) b_int))))
    (bss_cons (bs_set (i := 11) sc__law_asked.nd rfl (by first | exact Or.inl rfl | exact Or.inr rfl) (b_ix ix_seq (b_op o_add (bv 2) (b_lst (ba_c b_str ba_nil rfl))) (b_op op_mod (b_op op_fdiv (bv 3) b_int) (b_op o_add (b_b c_len T.b_len (by kernel_rfl) (ba_c (bv 2) ba_nil rfl)) b_int)) (fun _ _ => rfl)))
    (bss_cons (bs_set (i := 12) sc__law_asked.nd rfl (by first | exact Or.inl rfl | exact Or.inr rfl) (b_lst ba_nil))
    (bss_cons (bs_if (bt_cmp (o_eqD (room100 hr)) (bv 6) b_int (nomark _))
      (bss_one (bs_set (i := 12) sc__law_asked.nd rfl (by first | exact Or.inl rfl | exact Or.inr rfl) (b_lst (ba_c (b_m0 Z.c_Hand Z.me_Hand_rows G_Hand_rows pass0 hb0_Hand_rows hv0_Hand_rows (hr.mono (by first | decide | omega)) (bv 0)) (ba_c (bv 5) ba_nil rfl) rfl))))
      bss_nil)
    (bss_cons (bs_if (bt_cmp (o_eqD (room100 hr)) (bv 6) b_int (nomark _))
      (bss_one (bs_set (i := 12) sc__law_asked.nd rfl (by first | exact Or.inl rfl | exact Or.inr rfl) (b_lst (ba_c (b_m Z.c_Hand Z.me_Hand_between G_Hand_between pass0 hb0_Hand_between hv0_Hand_between (hr.mono (by first | decide | omega)) (bv 0) (ba_c (bv 10) (ba_c (bv 11) ba_nil rfl) rfl)) (ba_c (b_lc (x := "_law_row_here") (ix := [10, 11]) (fv := ["_law_low", "_law_high"]) (osc := defScope s__law_asked) rfl ⟨rfl, by decide +kernel, by decide +kernel, by rfl, by decide +kernel, by decide +kernel, by decide +kernel⟩ (by rfl) (bi_list (bv 5)) (fun _ _ _ _ => (bf_one (bt_w (bw_and (bt_cmp o_le (bv 1) (b_ix (ix_seqK (K := K) rfl) (bv 0) b_int (fun _ _ => rfl)) (nomark _)) (bw_and1 (bt_cmp o_lt (b_ix (ix_seqK (K := K) rfl) (bv 0) b_int (fun _ _ => rfl)) (bv 2) (nomark _))))))) (fun _ _ _ _ => (bv 0))) ba_nil rfl) rfl))))
      bss_nil)
    (bss_cons (bs_if (bt_cmp (o_eqD (room100 hr)) (bv 6) b_int (nomark _))
      (bss_one (bs_set (i := 12) sc__law_asked.nd rfl (by first | exact Or.inl rfl | exact Or.inr rfl) (b_lst (ba_c (b_m Z.c_Hand Z.me_Hand_between G_Hand_between pass0 hb1_Hand_between hv1_Hand_between (hr.mono (by first | decide | omega)) (bv 0) (ba_c (bv 10) ba_nil rfl)) (ba_c (b_lc (x := "_law_row_here") (ix := [10]) (fv := ["_law_low"]) (osc := defScope s__law_asked) rfl ⟨rfl, by decide +kernel, by decide +kernel, by rfl, by decide +kernel, by decide +kernel, by decide +kernel⟩ (by rfl) (bi_list (bv 5)) (fun _ _ _ _ => (bf_one (bt_cmp o_le (bv 1) (b_ix (ix_seqK (K := K) rfl) (bv 0) b_int (fun _ _ => rfl)) (nomark _)))) (fun _ _ _ _ => (bv 0))) ba_nil rfl) rfl))))
      bss_nil)
    (bss_cons (bs_if (bt_cmp (o_eqD (room100 hr)) (bv 6) b_int (nomark _))
      (bss_one (bs_set (i := 12) sc__law_asked.nd rfl (by first | exact Or.inl rfl | exact Or.inr rfl) (b_lst (ba_c (b_m0 Z.c_Hand Z.me_Hand_between G_Hand_between pass0 hb2_Hand_between hv2_Hand_between (hr.mono (by first | decide | omega)) (bv 0)) (ba_c (bv 5) ba_nil rfl) rfl))))
      bss_nil)
    (bss_cons (bs_if (bt_w (bw_and (bt_cmp (o_neD (room100 hr)) (bv 12) (b_lst ba_nil) (nomark _)) (bw_and1 (bt_w (bw_or (bt_not (bt_val (b_b c_isinst T.b_isinstance (by kernel_rfl) (ba_c (b_ix ix_seq (bv 12) b_int (fun _ _ => rfl)) (ba_c (b_ty (T := "list") T.b_list (by kernel_rfl)) ba_nil rfl) rfl)) (fun _ => rfl))) (bw_or1 (bt_cmp (o_neD (room100 hr)) (b_ix ix_seq (bv 12) b_int (fun _ _ => rfl)) (b_ix ix_seq (bv 12) b_int (fun _ _ => rfl)) (nomark _))))))))
      (bss_one (bs_ret b_bl))
      bss_nil)
    (bss_one (bs_if (bt_cmp (o_neD (room100 hr)) (bv 12) (b_lst ba_nil) (nomark _))
      (bss_cons (bs_expr (bm_append (b_ix ix_seq (bv 12) b_int (fun _ _ => rfl)) (ba_c (b_tup (ba_c b_str (ba_c b_int (ba_c b_non ba_nil rfl) rfl) rfl)) ba_nil rfl)))
    (bss_one (bs_expr (bm_append (bv 4) (ba_c (b_lst (ba_c (b_ix ix_seq (bv 12) b_int (fun _ _ => rfl)) (ba_c (b_t c_list T.b_list (by kernel_rfl) (ba_c (b_ix ix_seq (bv 12) b_int (fun _ _ => rfl)) ba_nil rfl)) ba_nil rfl) rfl)) ba_nil rfl)))))
      bss_nil))))))))))))))))
    (bss_one (bs_ret (b_and (b_cmp (o_eqD (room100 hr)) (b_m0 Z.c_Hand Z.me_Hand_rows G_Hand_rows pass0 hb0_Hand_rows hv0_Hand_rows (hr.mono (by first | decide | omega)) (bv 0)) (bv 5) (nomark _)) (b_one (b_cmp (o_eqD (room100 hr)) (b_m0 Z.c_Hand Z.me_Hand_between G_Hand_between pass0 hb2_Hand_between hv2_Hand_between (hr.mono (by first | decide | omega)) (bv 0)) (bv 5) (nomark _)))))))), ?_⟩
    kas_types
    lcg_off
    refine ord_use rs hr0 hrs0 W.nd W.few (fun du fs pd H1 pm ri n1 s1 h1 hdu => ?_)
    have W1 := W.same s1
    lcg_off
    refine lcWr (fun i ys F => Same H1 F ∧ ∃ ws : List Int, ys = ws.map V.int ∧ ws.length = i ∧ ∀ x ∈ ws, 0 ≤ x ∧ x < 6) (by rw [sizeLine_eq]; decide) ⟨Same.refl _, [], rfl, rfl, fun x hx => (by cases hx)⟩ (fun i ys F h => by obtain ⟨_, ws, rfl, h2, _⟩ := h; rw [List.length_map, h2]) (fun i ys F hi h => ?_) (fun ys pw F F1 h hp sF hF => ?_)
    · obtain ⟨f1, ws, rfl, f2, f3⟩ := h
      lcg_off
      refine ⟨f1, ws ++ [(n + (0 + (i : Int))) % 6], by rw [List.map_append]; rfl, by rw [List.length_append, f2]; rfl, fun x hx => ?_⟩
      rcases List.mem_append.mp hx with hx | hx
      · exact f3 x hx
      · rw [List.mem_singleton.mp hx]
        exact ⟨Int.emod_nonneg _ (by decide), Int.emod_lt_of_pos _ (by decide)⟩
    obtain ⟨f1, ws, rfl, f2, f3⟩ := h
    have sF1 : Same H1 F1 := f1.trans sF
    have W2 := W1.same sF1
    have hpd : pd ≠ ph := fun z => by have := W.held; rw [← z, n1] at this; cases this
    have hpw : pw ≠ ph := fun z => by have := (W1.same f1).held; rw [← z, hp] at this; cases this
    lcg_off
    refine forL (xs := ws.map V.int) (fun i σ G => ∃ (hs' : List V) (o6 o7 o8 o9 o10 o11 o12 : Option V), σ = [some (.ref a), some (.ref r), some (.ref pk), some (.int n), some (.ref ph), some (.ref pd), o6, o7, o8, o9, o10, o11, o12] ∧ KeepX ph H G ∧ AskOk c S G a t r pk ph g rs ks hs' ∧ hs'.length ≤ hs.length + i ∧ G pw = some (.lst (ws.map V.int)) ∧ G pd = some (.lst du) ∧ Reps G (fs.map entD) du)
      ⟨hs, none, none, none, none, none, none, none, rfl, .of (s1.trans sF1), W2, Nat.le_refl _, hF, sF1 _ _ h1, hdu.same sF1⟩ (fun i σ G h => by obtain ⟨_, _, _, _, _, _, _, _, rfl, _, _, _, h, _⟩ := h; exact SqL.of h) (fun i x σ G hi hx h => ?_) (fun σ G h => ?_)
    · obtain ⟨hs', o6, o7, o8, o9, o10, o11, o12, rfl, kG, WG, hlG, gw, gd, gdu⟩ := h
      rw [List.length_map, f2] at hi
      rw [List.getElem?_map] at hx
      obtain ⟨wy, hwy, rfl⟩ := Option.map_eq_some_iff.mp hx
      have hw6 := f3 wy (List.mem_of_getElem? hwy)
      obtain ⟨xr, hr, hxr⟩ := WG.rows
      have hkG := WG.keys
      have hA := WG.hand
      have hl1000 := WG.len
      lcg_off
      refine rd_mod (by rw [List.length_map]; omega) ?_
      lcg_off
      refine rd_pick (SqL.of hkG) (Int.emod_nonneg _ (by rw [List.length_map]; omega)) (Int.emod_lt_of_pos _ (by rw [List.length_map]; omega)) (fun u hu => ?_)
      obtain ⟨z, hz, rfl⟩ := List.mem_map.mp hu
      lcg_off
      rename_i p2 G2 n2 s2 h2
      refine rd_pick (SqL.of h2) (Int.emod_nonneg _ (by decide)) (Int.emod_lt_of_pos _ (by decide)) (fun u hu => ?_)
      obtain ⟨st, rfl⟩ : ∃ st : Int, u = .int st := by
        simp only [List.mem_cons, List.not_mem_nil, or_false] at hu
        rcases hu with rfl | rfl | rfl <;> exact ⟨_, rfl⟩
      refine rd_go ?_
      dsimp only [List.set]
      change tSeq _ _ _ _ _
      with_reducible refine' seq_cut (fun σ' G' => Same G G' ∧ σ' = [some (.ref a), some (.ref r), some (.ref pk), some (.int n), some (.ref ph), some (.ref pd), some (.int wy), some (.str z), some (.int st), o9, o10, o11, o12]) ?a1 ?b1
      · intro nx hn
        lcg_off
        refine ite_dec (fun w0 => ?_) (fun w0 => ?_)
        · have W2 := WG.same s2
          lcg_off
          refine rd_meth W2.hand rfl ?_
          lcg_off
          refine hfind_use W2.hand W2.ok hl1000 (fun v G3 s3 hv => ?_)
          have s23 : Same G G3 := s2.trans s3
          lcg_off
          refine found_use rs (s23 _ _ hr) (hxr.same s23) (fun u hu => ?_)
          rw [newM_eq (es := flat g) (fs := rs) W.nd (fun x _ => W.all x)] at hv
          refine rd_neO _ hv hu ?_
          lcg_off
          exact hn _ _ ⟨s23, rfl⟩
        · refine ite_f (by simp) ?_
          lcg_off
          exact hn _ _ ⟨s2, rfl⟩
      · intro σ' G3 h
        obtain ⟨s3, rfl⟩ := h
        clear h2 s2 n2 hu
        have hr3 := s3 _ _ hr
        lcg_off
        rename_i p4 G4 n4 s4 h4
        have hr4 := s4 _ _ hr3
        have s34 : Same G G4 := s3.trans s4
        obtain ⟨L, l1, l2, l3⟩ := reps_pairs (hxr.same s34)
        have hxl : xr.length = rs.length := reps_len hxr
        refine lcWl (xs := xr) (fun i ys F => F = G4 ∧ i ≤ rs.length ∧ ys = (rs.take i).map fun e => V.int e.2.1) (by rw [hxl, sizeLine_eq]; have := W.few; omega) ⟨rfl, Nat.zero_le _, rfl⟩ (fun i ys F h => by obtain ⟨rfl, h1, rfl⟩ := h; exact ⟨SqL.of hr4, by rw [List.length_map, List.length_take]; omega⟩) (fun i v ys F hv h => ?_) (fun ys p5 F G5 h n5 s5 h5 => ?_)
        · obtain ⟨rfl, k1, rfl⟩ := h
          rw [← l2, List.getElem?_map] at hv
          obtain ⟨te, hte, rfl⟩ := Option.map_eq_some_iff.mp hv
          have hei : rs[i]? = some te.1 := by rw [← l1, List.getElem?_map, hte]; rfl
          obtain ⟨hil, hie⟩ := List.getElem?_eq_some_iff.mp hei
          obtain ⟨cc, xx, ec, hcc, hxx⟩ := ent_at (l3 te (List.mem_of_getElem? hte))
          rw [ec]
          lcg_off
          refine ⟨rfl, hil, ?_⟩
          rw [List.take_succ_eq_append_getElem hil, hie, List.map_append]
          rfl
        obtain ⟨rfl, _, rfl⟩ := h
        rw [hxl, List.take_length] at h5
        have h45 := s5 _ _ h4
        have s35 : Same G G5 := s34.trans s5
        clear hr4 l3 l2 l1 h4
        refine rd_addL h45 h5 (by rw [List.length_map, sizeLine_eq]; have := W.few; simp only [List.length_cons, List.length_nil]; omega) (fun p6 G6 n6 s6 h6 => ?_)
        lcg_off
        refine rd_maxL (0 :: rs.map (·.2.1)) (SqL.of (by rw [h6, List.map_cons, List.map_map]; rfl)) (by simp) (fun M hM hle => ?_)
        have s36 : Same G G6 := s35.trans s6
        clear h45 h5 h6 n4 n5 n6 s4 s5 s6 s34 s35
        refine rd_go ?_
        dsimp only [List.set]
        change tSeq _ _ _ _ _
        with_reducible refine' seq_cut (fun σ' G' => Same G G' ∧ σ' = [some (.ref a), some (.ref r), some (.ref pk), some (.int n), some (.ref ph), some (.ref pd), some (.int wy), some (.str z), some (.int st), some (.int M), o10, o11, o12]) ?a2 ?b2
        · intro nx hn
          lcg_off
          refine ite_dec (fun w0 => ?_) (fun w0 => ?_)
          · have W2 := WG.same s36
            lcg_off
            refine rd_meth W2.hand rfl ?_
            lcg_off
            refine many_use W2.hand W2.ok hl1000 (fun G7 s7 => ?_)
            have s37 : Same G G7 := s36.trans s7
            have hr7 := s37 _ _ hr
            lcg_off
            refine ite_f (by rw [hxl, W.perm.length_eq]; simp) ?_
            lcg_off
            refine rd_meth (WG.same s37).hand rfl ?_
            lcg_off
            refine great_use (WG.same s37).hand W.ok hl1000 (fun M' G8 hM' s8 => ?_)
            rw [max_eq hM' W.all W.pos hM hle]
            lcg_off
            refine ite_f (by simp) ?_
            lcg_off
            exact hn _ _ ⟨s37.trans s8, rfl⟩
          · refine ite_f (by simp) ?_
            lcg_off
            exact hn _ _ ⟨s36, rfl⟩
        · intro σ' G7 h
          obtain ⟨s7, rfl⟩ := h
          clear s36 s3 hr3
          have hk7 := s7 _ _ hkG
          lcg_off
          refine rd_mod (by rw [List.length_map]; omega) ?_
          lcg_off
          refine rd_pick (SqL.of hk7) (Int.emod_nonneg _ (by rw [List.length_map]; omega)) (Int.emod_lt_of_pos _ (by rw [List.length_map]; omega)) (fun u hu => ?_)
          obtain ⟨z2, hz2, rfl⟩ := List.mem_map.mp hu
          lcg_off
          refine rd_slG (by have := WG.good z2 hz2; unfold okT at this; omega) ?_
          generalize Txt.slice z2 none (some (n % 4)) = lo
          lcg_off
          rename_i p8 G8 n8 s8 h8
          refine rd_addL (s8 _ _ hk7) h8 (by rw [List.length_map, sizeLine_eq]; have := WG.most; simp only [List.length_cons, List.length_nil]; omega) (fun p9 G9 n9 s9 h9 => ?_)
          have hk9 := s9 _ _ (s8 _ _ hk7)
          lcg_off
          refine rd_pick (SqL.of h9) (Int.emod_nonneg _ (by omega)) (by rw [List.length_append, List.length_map]; exact Int.emod_lt_of_pos _ (by omega)) (fun u hu => ?_)
          obtain ⟨hz, rfl⟩ : ∃ hz : Str, u = .str hz := by
            rcases List.mem_append.mp hu with h | h
            · obtain ⟨y, _, rfl⟩ := List.mem_map.mp h
              exact ⟨y, rfl⟩
            · exact ⟨_, List.mem_singleton.mp h⟩
          have s79 : Same G G9 := (s7.trans s8).trans s9
          clear hk9 hk7 h8 h9 n8 n9 hu s8 s9 s7
          have due_eq : ∀ fs', fs'.Perm (flat g) → Rises fs' → fs' = fs := fun fs' q1 q2 => rises_one (q1.trans (W.perm.trans pm.symm)) q2 ri
          lcg_off
          rename_i tl GA n8 s8 h8
          have sA : Same G GA := s79.trans s8
          have hT : Told G GA tl := .inl h8
          clear s79 s8 n8 h8
          refine ite_both (fun σ' G' => ∃ tl, σ' = [some (.ref a), some (.ref r), some (.ref pk), some (.int n), some (.ref ph), some (.ref pd), some (.int wy), some (.str z), some (.int st), some (.int M), some (.str lo), some (.str hz), some (.ref tl)] ∧ Same G G' ∧ Told G G' tl) (fun σ' GA h => ?_) (fun hy nx hx => ?_) (fun hy nx hx => ?_)
          rotate_left
          · lcg_off
            refine rd_meth (WG.same sA).hand rfl ?_
            lcg_off
            refine rows_use (WG.same sA).hand W.ok hl1000 (fun ys fs' p8 G8 pm8 ri8 n8 s8 h8 r8 => ?_)
            obtain rfl := due_eq fs' pm8 ri8
            lcg_off
            rename_i p9 G9 n9 s9 h9
            exact hx _ _ ⟨p9, rfl, (sA.trans s8).trans s9, .inr ⟨p8, pd, _, _, fs', h9, (fun z => by rw [z, h8] at n9; cases n9), sA.free n8, s9 _ _ h8, ((sA.trans s8).trans s9) _ _ gd, ents_stay r8 (.of s9), ents_stay gdu (.of ((sA.trans s8).trans s9)), by rw [pm.length_eq]; exact W.few⟩⟩
          · lcg_off
            exact hx _ _ ⟨_, rfl, sA, hT⟩
          obtain ⟨tl, rfl, sA, hT⟩ := h
          lcg_off
          refine ite_both (fun σ' G' => ∃ tl, σ' = [some (.ref a), some (.ref r), some (.ref pk), some (.int n), some (.ref ph), some (.ref pd), some (.int wy), some (.str z), some (.int st), some (.int M), some (.str lo), some (.str hz), some (.ref tl)] ∧ Same G G' ∧ Told G G' tl) (fun σ' GA h => ?_) (fun hy nx hx => ?_) (fun hy nx hx => ?_)
          rotate_left
          · lcg_off
            refine rd_meth (WG.same sA).hand rfl ?_
            lcg_off
            refine betw_use (some hz) rfl (WG.same sA).hand W.ok hl1000 (fun ys fs' p8 GB pm8 ri8 nB s8 hB rB => ?_)
            obtain rfl := due_eq fs' pm8 ri8
            have sB : Same G GB := sA.trans s8
            have gd2 := sB _ _ gd
            obtain ⟨L, l1, l2, l3⟩ := reps_pairs (gdu.same sB)
            have hdl : du.length = fs'.length := reps_len gdu
            have hfl : fs'.length < 1000 := by rw [pm.length_eq]; exact W.few
            lcg_off
            refine lcWf (xs := du) (fun i us F => Same GB F ∧ Reps F (((fs'.take i).filter (inS lo (some hz))).map entD) us ∧ us.length ≤ i) (by rw [hdl, sizeLine_eq]; omega) ⟨Same.refl _, by simp only [List.take_zero, List.filter_nil, List.map_nil, Reps], Nat.le_refl _⟩ (fun i us F h => ⟨SqL.of (h.1 _ _ gd2), h.2.2⟩) (fun i v us F hv h => ?_) (fun us p9 F G9 h n9 s9 h9 => ?_)
            · obtain ⟨f1, f2, f3⟩ := h
              rw [← l2, List.getElem?_map] at hv
              obtain ⟨te, hte, rfl⟩ := Option.map_eq_some_iff.mp hv
              have hei : fs'[i]? = some te.1 := by rw [← l1, List.getElem?_map, hte]; rfl
              obtain ⟨hil, hie⟩ := List.getElem?_eq_some_iff.mp hei
              have hrep := (l3 te (List.mem_of_getElem? hte)).same f1
              obtain ⟨cc, xx, ec, hcc, hxx⟩ := ent_at hrep
              rw [ec] at hrep
              rw [ec]
              have ht1 : (fs'.take (i + 1)).filter (inS lo (some hz)) = (fs'.take i).filter (inS lo (some hz)) ++ if inS lo (some hz) te.1 = true then [te.1] else [] := by rw [List.take_succ_eq_append_getElem hil, hie, filt_snoc]
              have yes : inS lo (some hz) te.1 = true → Same GB F ∧ Reps F (((fs'.take (i + 1)).filter (inS lo (some hz))).map entD) (us ++ [.ref cc]) ∧ (us ++ [V.ref cc]).length ≤ i + 1 := fun hy => by
                refine ⟨f1, ?_, by rw [List.length_append]; simp; omega⟩
                rw [ht1, if_pos hy, List.map_append]
                exact Reps.snoc f2 hrep
              have no : inS lo (some hz) te.1 = false → Same GB F ∧ Reps F (((fs'.take (i + 1)).filter (inS lo (some hz))).map entD) us ∧ us.length ≤ i + 1 := fun hn => by
                refine ⟨f1, ?_, by omega⟩
                rw [ht1, if_neg (by rw [hn]; simp), List.append_nil]
                exact f2
              lcg_off
              refine ite_nb (fun h0 => ?_) (fun h0 => ?_)
              · lcg_off
                refine ite_b (fun h1 => ?_) (fun h1 => ?_)
                · lcg_off
                  exact yes ((inS_some h0).trans h1)
                · exact no ((inS_some h0).trans h1)
              · refine ite_f (by simp) ?_
                exact no (inS_no h0)
            obtain ⟨f1, f2, f3⟩ := h
            rw [hdl, List.take_length] at f2
            lcg_off
            rename_i p10 G10 n10 s10 h10
            have sF : Same GB G10 := (f1.trans s9).trans s10
            exact hx _ _ ⟨p10, rfl, sB.trans sF, .inr ⟨p8, p9, _, _, fs'.filter (inS lo (some hz)), h10, (fun z => by rw [z, (f1.trans s9) _ _ hB] at n10; cases n10), sA.free nB, sF _ _ hB, s10 _ _ h9, ents_stay rB (.of sF), ents_stay f2 (.of (s9.trans s10)), Nat.lt_of_le_of_lt (List.length_filter_le _ _) hfl⟩⟩
          · lcg_off
            exact hx _ _ ⟨_, rfl, sA, hT⟩
          obtain ⟨tl, rfl, sA, hT⟩ := h
          lcg_off
          refine ite_both (fun σ' G' => ∃ tl, σ' = [some (.ref a), some (.ref r), some (.ref pk), some (.int n), some (.ref ph), some (.ref pd), some (.int wy), some (.str z), some (.int st), some (.int M), some (.str lo), some (.str hz), some (.ref tl)] ∧ Same G G' ∧ Told G G' tl) (fun σ' GA h => ?_) (fun hy nx hx => ?_) (fun hy nx hx => ?_)
          rotate_left
          · lcg_off
            refine rd_meth (WG.same sA).hand rfl ?_
            lcg_off
            refine betw_use none rfl (WG.same sA).hand W.ok hl1000 (fun ys fs' p8 GB pm8 ri8 nB s8 hB rB => ?_)
            obtain rfl := due_eq fs' pm8 ri8
            have sB : Same G GB := sA.trans s8
            have gd2 := sB _ _ gd
            obtain ⟨L, l1, l2, l3⟩ := reps_pairs (gdu.same sB)
            have hdl : du.length = fs'.length := reps_len gdu
            have hfl : fs'.length < 1000 := by rw [pm.length_eq]; exact W.few
            lcg_off
            refine lcWf (xs := du) (fun i us F => Same GB F ∧ Reps F (((fs'.take i).filter (inS lo none)).map entD) us ∧ us.length ≤ i) (by rw [hdl, sizeLine_eq]; omega) ⟨Same.refl _, by simp only [List.take_zero, List.filter_nil, List.map_nil, Reps], Nat.le_refl _⟩ (fun i us F h => ⟨SqL.of (h.1 _ _ gd2), h.2.2⟩) (fun i v us F hv h => ?_) (fun us p9 F G9 h n9 s9 h9 => ?_)
            · obtain ⟨f1, f2, f3⟩ := h
              rw [← l2, List.getElem?_map] at hv
              obtain ⟨te, hte, rfl⟩ := Option.map_eq_some_iff.mp hv
              have hei : fs'[i]? = some te.1 := by rw [← l1, List.getElem?_map, hte]; rfl
              obtain ⟨hil, hie⟩ := List.getElem?_eq_some_iff.mp hei
              have hrep := (l3 te (List.mem_of_getElem? hte)).same f1
              obtain ⟨cc, xx, ec, hcc, hxx⟩ := ent_at hrep
              rw [ec] at hrep
              rw [ec]
              have ht1 : (fs'.take (i + 1)).filter (inS lo none) = (fs'.take i).filter (inS lo none) ++ if inS lo none te.1 = true then [te.1] else [] := by rw [List.take_succ_eq_append_getElem hil, hie, filt_snoc]
              have yes : inS lo none te.1 = true → Same GB F ∧ Reps F (((fs'.take (i + 1)).filter (inS lo none)).map entD) (us ++ [.ref cc]) ∧ (us ++ [V.ref cc]).length ≤ i + 1 := fun hy => by
                refine ⟨f1, ?_, by rw [List.length_append]; simp; omega⟩
                rw [ht1, if_pos hy, List.map_append]
                exact Reps.snoc f2 hrep
              have no : inS lo none te.1 = false → Same GB F ∧ Reps F (((fs'.take (i + 1)).filter (inS lo none)).map entD) us ∧ us.length ≤ i + 1 := fun hn => by
                refine ⟨f1, ?_, by omega⟩
                rw [ht1, if_neg (by rw [hn]; simp), List.append_nil]
                exact f2
              lcg_off
              refine ite_nb (fun h0 => ?_) (fun h0 => ?_)
              · lcg_off
                exact yes (inS_none h0)
              · exact no (inS_no h0)
            obtain ⟨f1, f2, f3⟩ := h
            rw [hdl, List.take_length] at f2
            lcg_off
            rename_i p10 G10 n10 s10 h10
            have sF : Same GB G10 := (f1.trans s9).trans s10
            exact hx _ _ ⟨p10, rfl, sB.trans sF, .inr ⟨p8, p9, _, _, fs'.filter (inS lo none), h10, (fun z => by rw [z, (f1.trans s9) _ _ hB] at n10; cases n10), sA.free nB, sF _ _ hB, s10 _ _ h9, ents_stay rB (.of sF), ents_stay f2 (.of (s9.trans s10)), Nat.lt_of_le_of_lt (List.length_filter_le _ _) hfl⟩⟩
          · lcg_off
            exact hx _ _ ⟨_, rfl, sA, hT⟩
          obtain ⟨tl, rfl, sA, hT⟩ := h
          lcg_off
          refine ite_both (fun σ' G' => ∃ tl, σ' = [some (.ref a), some (.ref r), some (.ref pk), some (.int n), some (.ref ph), some (.ref pd), some (.int wy), some (.str z), some (.int st), some (.int M), some (.str lo), some (.str hz), some (.ref tl)] ∧ Same G G' ∧ Told G G' tl) (fun σ' GA h => ?_) (fun hy nx hx => ?_) (fun hy nx hx => ?_)
          rotate_left
          · lcg_off
            refine rd_meth (WG.same sA).hand rfl ?_
            lcg_off
            refine betw_use none rfl (WG.same sA).hand W.ok hl1000 (fun ys fs' p8 G8 pm8 ri8 n8 s8 h8 r8 => ?_)
            obtain rfl := due_eq fs' pm8 ri8
            rw [filter_low] at r8
            lcg_off
            rename_i p9 G9 n9 s9 h9
            exact hx _ _ ⟨p9, rfl, (sA.trans s8).trans s9, .inr ⟨p8, pd, _, _, fs', h9, (fun z => by rw [z, h8] at n9; cases n9), sA.free n8, s9 _ _ h8, ((sA.trans s8).trans s9) _ _ gd, ents_stay r8 (.of s9), ents_stay gdu (.of ((sA.trans s8).trans s9)), by rw [pm.length_eq]; exact W.few⟩⟩
          · lcg_off
            exact hx _ _ ⟨_, rfl, sA, hT⟩
          obtain ⟨tl, rfl, sA, hT⟩ := h
          lcg_off
          rename_i e1 E1 m1 t1 g1
          have sE : Same G E1 := sA.trans t1
          rcases hT with h0 | ⟨p1, p2, xs, ys, es, h0, htp, np, hp1, hp2, r1, r2, hes⟩
          · refine rd_neN (t1 _ _ h0) g1 ?_
            lcg_off
            rename_i e2 E2 m2 t2 g2
            refine rd_neN (t2 _ _ (t1 _ _ h0)) g2 ?_
            lcg_off
            have sZ : Same G E2 := sE.trans t2
            exact ⟨hs', _, _, _, _, _, _, _, rfl, kG.trans (.of sZ), WG.same sZ, by omega, sZ _ _ gw, sZ _ _ gd, gdu.same sZ⟩
          · have t0 := t1 _ _ h0
            have tp1 := t1 _ _ hp1
            have tp2 := t1 _ _ hp2
            refine rd_neY es t0 g1 tp1 tp2 (ents_stay r1 (.of t1)) (ents_stay r2 (.of t1)) ?_
            lcg_off
            refine rd_neE es tp1 tp2 (ents_stay r1 (.of t1)) (ents_stay r2 (.of t1)) ?_
            lcg_off
            rename_i e2 E2 m2 t2 g2
            refine rd_neY es (t2 _ _ t0) g2 (t2 _ _ tp1) (t2 _ _ tp2) (ents_stay r1 (.of (t1.trans t2))) (ents_stay r2 (.of (t1.trans t2))) ?_
            lcg_off
            rename_i tz E3 t3 g3
            have s12 : Same GA E2 := t1.trans t2
            have s13 : Same GA E3 := s12.trans t3
            have hxl' := reps_len r1
            refine rd_append (s13 _ _ hp1) (by rw [hxl', sizeLine_eq]; omega) ?_
            have tu : Tups E3 (upd E3 p1 (.lst (xs ++ [.ref tz]))) := Tups.upd fun vs y => by rw [s13 _ _ hp1] at y; cases y
            have sU : Same G (upd E3 p1 (.lst (xs ++ [.ref tz]))) := same_updL (sA.trans s13) np
            have gU : upd E3 p1 (.lst (xs ++ [.ref tz])) p1 = some (.lst (xs ++ [.ref tz])) := upd_same
            have tU : upd E3 p1 (.lst (xs ++ [.ref tz])) tl = some (.lst [.ref p1, .ref p2]) := by rw [upd_ne htp]; exact s13 _ _ h0
            have rU : Reps (upd E3 p1 (.lst (xs ++ [.ref tz]))) ((es ++ [(Str.ofString "zz", 1, none)]).map entD) (xs ++ [.ref tz]) := by
              rw [List.map_append]
              exact Reps.snoc (ents_stay r1 ((Tups.of s13).trans tu)) (ent_stay (mk_ent (e := (Str.ofString "zz", 1, none)) g3 Rep.non') tu)
            generalize upd E3 p1 (.lst (xs ++ [.ref tz])) = EU at *
            have hhU := sU _ _ WG.held
            clear g1 g2 g3 tu t1 t2 t3 s12 s13 tp1 tp2 t0 m1 m2 sE r1 r2 h0 hp1 hp2 sA
            lcg_off
            rename_i pc E4 n4 t4 g4 pb E5 n5 t5 g5
            have s45 : Same EU E5 := t4.trans t5
            have sZ : Same G E5 := sU.trans s45
            have WZ := WG.same sZ
            refine rd_append WZ.held (by rw [sizeLine_eq]; omega) ?_
            have fr : ∀ {b : Addr}, G b = none → ¬ S b := fun {b} hb hS => WG.sall b hS hb
            have H1 : Held1 S E5 (.ref pb) := ⟨pb, p1, pc, _, _, _, rfl, fr (sU.free (t4.free n5)), fr np, fr (sU.free n4), g5, s45 _ _ gU, t5 _ _ g4, ents_stay rU (.of s45), ents_stay rU (.of s45)⟩
            have tu2 : Tups E5 (upd E5 ph (.lst (hs' ++ [.ref pb]))) := Tups.upd fun vs y => by rw [WZ.held] at y; cases y
            lcg_off
            exact ⟨hs' ++ [.ref pb], _, _, _, _, _, _, _, rfl, kG.trans ((KeepX.of sZ).trans KeepX.upd), WZ.more H1, by rw [List.length_append]; simp only [List.length_cons, List.length_nil]; omega, by rw [upd_ne hpw]; exact sZ _ _ gw, by rw [upd_ne hpd]; exact sZ _ _ gd, ents_stay gdu ((Tups.of sZ).trans tu2)⟩
    · obtain ⟨hs', o6, o7, o8, o9, o10, o11, o12, rfl, kG, WG, hlG, gw, gd, gdu⟩ := h
      have due_eq : ∀ fs', fs'.Perm (flat g) → Rises fs' → fs' = fs := fun fs' q1 q2 => rises_one (q1.trans (W.perm.trans pm.symm)) q2 ri
      lcg_off
      refine rd_meth WG.hand rfl ?_
      lcg_off
      refine rows_use WG.hand WG.ok WG.len (fun ys fs' p8 G8 pm8 ri8 n8 s8 h8 r8 => ?_)
      obtain rfl := due_eq fs' pm8 ri8
      lcg_off
      refine rd_eqE fs' h8 (s8 _ _ gd) r8 (gdu.same s8) ?_
      refine ⟨true, rfl, ?_⟩
      refine ite_t rfl ?_
      lcg_off
      refine rd_meth (WG.same s8).hand rfl ?_
      lcg_off
      refine betw_use none rfl (WG.same s8).hand WG.ok WG.len (fun ys fs2 p9 G9 pm9 ri9 n9 s9 h9 r9 => ?_)
      obtain rfl := due_eq fs2 pm9 ri9
      rw [filter_low] at r9
      lcg_off
      refine rd_eqE fs2 h9 ((s8.trans s9) _ _ gd) r9 (gdu.same (s8.trans s9)) ?_
      rw [List.length_map, f2] at hlG
      exact q G9 hs' (kG.trans (.of (s8.trans s9))) (WG.same (s8.trans s9)) hlG
theorem ask_use {c : Cs} {H : Hp} {Q : VK} {E : XK} {a t r pk ph : Addr} {n : Int} {S : Addr → Prop} {g : GS} {rs : List Ent} {ks : List Str} {hs : List V} (W : AskOk c S H a t r pk ph g rs ks hs) (hl : hs.length ≤ 4000)
    (q : ∀ H' hs', KeepX ph H H' → AskOk c S H' a t r pk ph g rs ks hs' → hs'.length ≤ hs.length + 6 → Q (.bl true) H') : spAsk c [.ref a, .ref r, .ref pk, .int n, .ref ph] H Q E := ⟨a, t, r, pk, ph, n, S, g, rs, ks, hs, rfl, W, hl, q⟩
end
section
variable {P : Program} {w : World} {K : PySem.W.Frag} {mg : Str → Option Value} {base : Heap}
structure HD where
  a : Addr
  t : Addr
  r : Addr
  g : GS
  rs : List Ent
abbrev HD.fp (d : HD) : List Addr := T40.fp d.a d.t d.g
structure One (c : Cs) (H G : Hp) (pr pd : Addr) (m : Nat) (d : HD) : Prop where
  hand : HandAt c G d.a d.t d.g
  ok : GOk d.t d.g
  rows : ∃ xs, G d.r = some (.lst xs) ∧ Reps G (d.rs.map entD) xs
  nd : (d.rs.map rkE).Nodup
  all : ∀ x, x ∈ flat d.g ↔ x ∈ d.rs
  few : d.rs.length ≤ m
  pos : ∀ e ∈ d.rs, 1 ≤ e.2.1
  fresh : ∀ b ∈ d.fp, H b = none
  nr : d.r ≠ pr
  nd' : d.r ≠ pd
def SS (pr pd : Addr) (b : Addr) : Prop := b = pd ∨ b = pr
structure LawI (c : Cs) (H : Hp) (pk pH pr pd : Addr) (ks : List Str) (m : Nat) (G : Hp) (D : Nat → HD) (hs : List V) : Prop where
  same : Same H G
  keys : G pk = some (.lst (ks.map V.str))
  hands : G pH = some (.lst [.ref (D 0).a, .ref (D 1).a])
  rws : G pr = some (.lst [.ref (D 0).r, .ref (D 1).r])
  one : ∀ k, k < 2 → One c H G pr pd m (D k)
  dis : ∀ j k, j < 2 → k < 2 → j ≠ k → ∀ b ∈ (D j).fp, b ∉ (D k).fp
  held : G pd = some (.lst hs)
  each : Held (SS pr pd) G hs
  n1 : pk ≠ pr
  n2 : pk ≠ pd
  n3 : pH ≠ pr
  n4 : pH ≠ pd
  n5 : pr ≠ pd
  f1 : H pr = none
  f2 : H pd = none
section
variable {c : Cs} {H G G' : Hp} {pk pH pr pd : Addr} {ks : List Str} {m : Nat} {D : Nat → HD} {hs hs' : List V}
theorem One.more {d : HD} {m' : Nat} (h : One c H G pr pd m d) (hm : m ≤ m') : One c H G pr pd m' d := ⟨h.hand, h.ok, h.rows, h.nd, h.all, Nat.le_trans h.few hm, h.pos, h.fresh, h.nr, h.nd'⟩
theorem One.keep {d : HD} (h : One c H G pr pd m d) {S : List Addr} (k : Chg S G G') (tu : Tups G G') (n : ∀ b ∈ d.fp, b ∉ S) (nr : d.r ∉ S) : One c H G' pr pd m d := by
  obtain ⟨xs, h1, h2⟩ := h.rows
  exact ⟨h.hand.other k tu n, h.ok, ⟨xs, k _ _ nr h1, ents_stay h2 tu⟩, h.nd, h.all, h.few, h.pos, h.fresh, h.nr, h.nd'⟩
theorem LawI.keep (L : LawI c H pk pH pr pd ks m G D hs) (s : Same G G') : LawI c H pk pH pr pd ks m G' D hs :=
  ⟨L.same.trans s, s _ _ L.keys, s _ _ L.hands, s _ _ L.rws, fun k hk => (L.one k hk).keep (S := []) (.of s) (.of s) (fun _ _ h => by cases h) (fun h => by cases h), L.dis, s _ _ L.held, L.each.keep (fun b xs _ e => s _ _ e) (.of s), L.n1, L.n2, L.n3, L.n4, L.n5, L.f1, L.f2⟩
theorem LawI.ask (L : LawI c H pk pH pr pd ks m G D hs) (hm : m < 1000) (h1 : 1 ≤ ks.length) (h2 : ks.length ≤ 51) (h3 : ∀ z ∈ ks, okT z) {k : Nat} (hk : k < 2) : AskOk c (SS pr pd) G (D k).a (D k).t (D k).r pk pd (D k).g (D k).rs ks hs := by
  have O := L.one k hk
  refine ⟨O.hand, O.ok, O.rows, O.nd, O.all, Nat.lt_of_le_of_lt O.few hm, O.pos, L.keys, h1, h2, h3, L.held, L.each, .inl rfl, fun b hb => ?_, O.nd', L.n2⟩
  rcases hb with rfl | rfl
  · rw [L.held]; simp
  · rw [L.rws]; simp
theorem LawI.asked (L : LawI c H pk pH pr pd ks m G D hs) {k : Nat} (hk : k < 2) (kx : KeepX pd G G') (A : AskOk c (SS pr pd) G' (D k).a (D k).t (D k).r pk pd (D k).g (D k).rs ks hs') : LawI c H pk pH pr pd ks m G' D hs' := by
  have ch : Chg [pd] G G' := fun b o n e => kx b o (fun z => n (List.mem_singleton.mpr z)) e
  have tu : Tups G G' := fun b xs e => kx b _ (fun z => by rw [z, L.held] at e; cases e) e
  refine ⟨fun b o e => kx b o (fun z => by rw [z, L.f2] at e; cases e) (L.same b o e), kx _ _ L.n2 L.keys, kx _ _ L.n4 L.hands, kx _ _ L.n5 L.rws, fun j hj => (L.one j hj).keep ch tu (fun b hb z => ?_) (fun z => (L.one j hj).nd' (List.mem_singleton.mp z)), L.dis, A.held, A.each, L.n1, L.n2, L.n3, L.n4, L.n5, L.f1, L.f2⟩
  exact (L.one j hj).hand.notL L.held (List.mem_singleton.mp z ▸ hb)
def updD (D : Nat → HD) (k : Nat) (d : HD) : Nat → HD := fun j => if j = k then d else D j
theorem LawI.step (L : LawI c H pk pH pr pd ks m G D hs) {k : Nat} (hk : k < 2) {d : HD} (ch : ∀ b o, b ∉ (D k).fp → b ≠ pr → G b = some o → G' b = some o) (ea : d.a = (D k).a) (hr : G' pr = some (.lst ([.ref (D 0).r, .ref (D 1).r].set k (.ref d.r)))) (O : One c H G' pr pd (m + 1) d) (hf : ∀ b ∈ d.fp, b ∈ (D k).fp ∨ G b = none) :
    LawI c H pk pH pr pd ks (m + 1) G' (updD D k d) hs := by
  have Ok := L.one k hk
  have nl : ∀ {b : Addr} {xs : List V}, G b = some (.lst xs) → b ≠ pr → G' b = some (.lst xs) := fun {b xs} e n => ch b _ (Ok.hand.notL e) n e
  have tu : Tups G G' := fun b xs e => ch b _ (Ok.hand.notT e) (fun z => by rw [z, L.rws] at e; cases e) e
  have ch' : Chg ((D k).fp ++ [pr]) G G' := fun b o n e => ch b o (fun z => n (List.mem_append.mpr (.inl z))) (fun z => n (List.mem_append.mpr (.inr (List.mem_singleton.mpr z)))) e
  have eD : ∀ j, j ≠ k → updD D k d j = D j := fun j n => if_neg n
  have eK : updD D k d k = d := if_pos rfl
  have hin : ∀ j, j < 2 → ∀ b ∈ (D j).fp, G b ≠ none := fun j hj b hb z => (L.one j hj).hand.notN z hb
  refine ⟨fun b o e => ch b o (fun z => by rw [Ok.fresh b z] at e; cases e) (fun z => by rw [z, L.f1] at e; cases e) (L.same b o e), nl L.keys L.n1, ?_, ?_, fun j hj => ?_, fun i j hi hj n b hb => ?_, nl L.held (Ne.symm L.n5), L.each.keep (fun b xs n e => nl e (fun z => n (.inr z))) tu, L.n1, L.n2, L.n3, L.n4, L.n5, L.f1, L.f2⟩
  · rw [nl L.hands L.n3]
    have : k = 0 ∨ k = 1 := by omega
    rcases this with rfl | rfl
    · rw [eK, eD 1 (by decide), ea]
    · rw [eK, eD 0 (by decide), ea]
  · rw [hr]
    have : k = 0 ∨ k = 1 := by omega
    rcases this with rfl | rfl
    · rw [eK, eD 1 (by decide)]; rfl
    · rw [eK, eD 0 (by decide)]; rfl
  · by_cases z : j = k
    · rw [z, eK]; exact O
    · rw [eD j z]
      refine ((L.one j hj).keep ch' tu (fun b hb z' => ?_) (fun z' => ?_)).more (Nat.le_succ _)
      · rcases List.mem_append.mp z' with z' | z'
        · exact L.dis j k hj hk z b hb z'
        · exact (L.one j hj).hand.notL L.rws (List.mem_singleton.mp z' ▸ hb)
      · rcases List.mem_append.mp z' with z' | z'
        · obtain ⟨xs, e, _⟩ := (L.one j hj).rows
          exact Ok.hand.notL e z'
        · exact (L.one j hj).nr (List.mem_singleton.mp z')
  · by_cases zi : i = k
    · have zj : j ≠ k := fun z => n (zi.trans z.symm)
      rw [zi, eK] at hb
      rw [eD j zj]
      rcases hf b hb with h | h
      · exact L.dis k j hk hj (Ne.symm zj) b h
      · exact fun z => hin j hj b z h
    · rw [eD i zi] at hb
      by_cases zj : j = k
      · rw [zj, eK]
        intro hb'
        rcases hf b hb' with h | h
        · exact L.dis i k hi hk zi b hb h
        · exact hin i hi b hb h
      · rw [eD j zj]
        exact L.dis i j hi hj n b hb
end
theorem putE_nd {rs : List Ent} {e : Ent} (h : (rs.map rkE).Nodup) : ((putE rs e).map rkE).Nodup := by
  unfold putE
  rw [List.map_append, List.nodup_append]
  refine ⟨h.sublist (List.filter_sublist.map rkE), List.nodup_cons.mpr ⟨(fun z => by cases z), List.Pairwise.nil⟩, fun x hx y hy z => ?_⟩
  obtain ⟨f, hf, rfl⟩ := List.mem_map.mp hx
  have h1 := (List.mem_filter.mp hf).2
  rw [List.mem_singleton.mp hy] at z
  simp [z] at h1
theorem putE_mem {rs : List Ent} {e x : Ent} : x ∈ putE rs e ↔ x = e ∨ (x ∈ rs ∧ rkE x ≠ rkE e) := by
  unfold putE
  rw [List.mem_append, List.mem_singleton, List.mem_filter]
  constructor
  · rintro (⟨h1, h2⟩ | h1)
    · exact .inr ⟨h1, by simpa using h2⟩
    · exact .inl h1
  · rintro (h1 | ⟨h1, h2⟩)
    · exact .inr h1
    · exact .inl ⟨h1, by simpa using h2⟩
theorem putE_len {rs : List Ent} {e : Ent} : (putE rs e).length ≤ rs.length + 1 := by
  unfold putE
  rw [List.length_append]
  have := List.length_filter_le (fun r => !decide (rkE r = rkE e)) rs
  simp only [List.length_cons, List.length_nil]
  omega
theorem pair_ixD (f : Nat → V) {k : Nat} (hk : k < 2) : atI [f 0, f 1] (k : Int) = some (f k) := by
  have : k = 0 ∨ k = 1 := by omega
  rcases this with rfl | rfl <;> rfl
theorem LawI.fin {c : Cs} {H G G1 G2 : Hp} {pk pH pr pd : Addr} {ks : List Str} {m : Nat} {D : Nat → HD} {hs : List V} (L : LawI c H pk pH pr pd ks m G D hs) {k : Nat} (hk : k < 2) {t' rn : Addr} {g' : GS} {rs' : List Ent} {ys : List V} (hA : HandAt c G1 (D k).a t' g') (hg : GOk t' g') (ch : Chg (D k).fp G G1) (hf : ∀ b ∈ T40.fp (D k).a t' g', b ∈ (D k).fp ∨ G b = none)
    (nr : G1 rn = none) (s : Same G1 G2) (hr : G2 rn = some (.lst ys)) (hys : Reps G2 (rs'.map entD) ys) (nd : (rs'.map rkE).Nodup) (all : ∀ x, x ∈ flat g' ↔ x ∈ rs') (few : rs'.length ≤ m + 1) (pos : ∀ e ∈ rs', 1 ≤ e.2.1) :
    LawI c H pk pH pr pd ks (m + 1) (upd G2 pr (.lst ([.ref (D 0).r, .ref (D 1).r].set k (.ref rn)))) (updD D k ⟨(D k).a, t', rn, g', rs'⟩) hs ∧ ∀ b xs, G b = some (.lst xs) → b ≠ pr → upd G2 pr (.lst ([.ref (D 0).r, .ref (D 1).r].set k (.ref rn))) b = some (.lst xs) := by
  have O := L.one k hk
  have hp1 : G1 pr = some (.lst [.ref (D 0).r, .ref (D 1).r]) := ch _ _ (O.hand.notL L.rws) L.rws
  have hd1 : G1 pd = some (.lst hs) := ch _ _ (O.hand.notL L.held) L.held
  have n1 : rn ≠ pr := fun z => by rw [z, hp1] at nr; cases nr
  have n2 : rn ≠ pd := fun z => by rw [z, hd1] at nr; cases nr
  have tu : Tups G2 (upd G2 pr (.lst ([.ref (D 0).r, .ref (D 1).r].set k (.ref rn)))) := Tups.upd fun xs z => by rw [s _ _ hp1] at z; cases z
  have hA2 := hA.same s
  have hA3 : HandAt c (upd G2 pr (.lst ([.ref (D 0).r, .ref (D 1).r].set k (.ref rn)))) (D k).a t' g' := hA2.other (S := [pr]) (Chg.upd List.mem_cons_self) tu (fun b hb z => hA2.notL (s _ _ hp1) (List.mem_singleton.mp z ▸ hb))
  refine ⟨L.step hk (d := ⟨(D k).a, t', rn, g', rs'⟩) (fun b o h1 h2 e => ?_) rfl upd_same ⟨hA3, hg, ⟨ys, by rw [upd_ne n1]; exact hr, ents_stay hys tu⟩, nd, all, few, pos, fun b hb => ?_, n1, n2⟩ hf, fun b xs e n => ?_⟩
  · rw [upd_ne h2]; exact s _ _ (ch b o h1 e)
  · rcases hf b hb with h | h
    · exact O.fresh b h
    · exact L.same.free h
  · rw [upd_ne n]; exact s _ _ (ch b _ (O.hand.notL e) e)
end
section
variable {P : Program} {w : World} {K : PySem.W.Frag} {mg : Str → Option Value} {base : Heap}
theorem hnew_use {c : Cs} {H : Hp} {F : Addr → Hp → Prop} {E : XK} (q : ∀ a t H', H a = none → H t = none → HandAt c H' a t [] → Same H H' → F a H') :
    ∀ x dx, H x = none → H dx = none → dx ≠ x → spInit0 c [.ref x] (upd (upd H dx (.own x)) x (.ins c.Hand dx [])) (fun v H2 => v = .non ∧ F x H2) E := by
  intro x dx hx hdx hne
  refine ⟨x, dx, rfl, upd_same, fun t H' hA hc ht => ⟨rfl, ?_⟩⟩
  have htx : t ≠ x := fun z => by rw [z, upd_same] at ht; cases ht
  have htd : t ≠ dx := fun z => by rw [z, upd_ne hne, upd_same] at ht; cases ht
  refine q x t H' hx (by rw [upd_ne htx, upd_ne htd] at ht; exact ht) hA (fun b o e => ?_)
  have b1 : b ≠ x := fun z => by rw [z, hx] at e; cases e
  have b2 : b ≠ dx := fun z => by rw [z, hdx] at e; cases e
  exact hc b o (fun z => b1 (List.mem_singleton.mp z)) (by rw [upd_ne b1, upd_ne b2]; exact e)
def spLaw (K : PySem.W.Frag) : Sp := fun vs H Q _ => ∃ (a : Addr) (ns : List Int), vs = [.ref a] ∧ SqL K H a (ns.map V.int) ∧ ns.length ≤ 63 ∧ ∀ H', Q (.bl true) H'
theorem sc_law : FnScope ["_law_script", "_law_keys_here", "_law_hands", "_law_rows", "_law_held", "_law_at", "_law_cell", "_law_numbers", "_law_k", "_law_row_here"] ["_law_script"] (defScope s_law) := ⟨rfl, rfl, rfl, by decide +kernel, rfl, by decide +kernel, by decide +kernel⟩
theorem ok_law (T : Txt K mg) {f : Addr} {fd : FuncData} (N : Fn K mg "law" s_law ["_law_script"] f fd) : FnOk P w K mg base CX0 (9) f fd ["_law_script"] (spLaw K) := by
  obtain ⟨c, Z⟩ := T.cl
  obtain ⟨_, _, F_Hand_init, ⟨_, hv0_Hand_init, hb0_Hand_init⟩⟩ := Z.i_Hand_init
  have G_Hand_init := ok_Hand_init (P := P) (w := w) (base := base) T Z F_Hand_init
  obtain ⟨_, _, F_Hand_clear, ⟨_, hv0_Hand_clear, hb0_Hand_clear⟩⟩ := Z.i_Hand_clear
  have G_Hand_clear := ok_Hand_clear (P := P) (w := w) (base := base) T Z F_Hand_clear
  obtain ⟨_, _, F_Hand_put, ⟨_, hv0_Hand_put, hb0_Hand_put⟩⟩ := Z.i_Hand_put
  have G_Hand_put := ok_Hand_put (P := P) (w := w) (base := base) T Z F_Hand_put
  obtain ⟨_, _, N__law_keys⟩ := T.f__law_keys
  have G__law_keys := ok__law_keys (P := P) (w := w) (base := base) T N__law_keys 
  obtain ⟨_, _, N__law_cell_at⟩ := T.f__law_cell_at
  have G__law_cell_at := ok__law_cell_at (P := P) (w := w) (base := base) T N__law_cell_at 
  obtain ⟨_, _, N__law_stream⟩ := T.f__law_stream
  have G__law_stream := ok__law_stream (P := P) (w := w) (base := base) T N__law_stream 
  obtain ⟨_, _, N__law_row⟩ := T.f__law_row
  have G__law_row := ok__law_row (P := P) (w := w) (base := base) T N__law_row 
  obtain ⟨_, _, N__law_asked⟩ := T.f__law_asked
  have G__law_asked := ok__law_asked (P := P) (w := w) (base := base) T Z N__law_asked 
  obtain ⟨_, _, N__law_put⟩ := T.f__law_put
  have G__law_put := ok__law_put (P := P) (w := w) (base := base) T N__law_put 
  refine N.fu.okB sc_law (fun vs H Q E h => ?_) (fun cdv A outer s H vs Q E hr h => ?_)
  · obtain ⟨a, ns, rfl, _⟩ := h
    rfl
  · obtain ⟨a, ns, rfl, hS, hn, kk⟩ := h
    refine ⟨_, (bss_cons (bs_set (i := 1) sc_law.nd rfl (by first | exact Or.inl rfl | exact Or.inr rfl) (b_f N__law_keys G__law_keys (hr.mono (by first | decide | omega)) (ba_c (b_f N__law_cell_at G__law_cell_at (hr.mono (by first | decide | omega)) (ba_c (bv 0) (ba_c b_int ba_nil rfl) rfl)) (ba_c b_int ba_nil rfl) rfl)))
    (bss_cons (bs_set (i := 2) sc_law.nd rfl (by first | exact Or.inl rfl | exact Or.inr rfl) (b_lst (ba_c (b_mk0 Z.mk_Hand G_Hand_init pass0 hb0_Hand_init hv0_Hand_init (hr.mono (by first | decide | omega)) Z.m_Hand) (ba_c (b_mk0 Z.mk_Hand G_Hand_init pass0 hb0_Hand_init hv0_Hand_init (hr.mono (by first | decide | omega)) Z.m_Hand) ba_nil rfl) rfl)))
    (bss_cons (bs_set (i := 3) sc_law.nd rfl (by first | exact Or.inl rfl | exact Or.inr rfl) (b_lst (ba_c (b_lst ba_nil) (ba_c (b_lst ba_nil) ba_nil rfl) rfl)))
    (bss_cons (bs_set (i := 4) sc_law.nd rfl (by first | exact Or.inl rfl | exact Or.inr rfl) (b_lst ba_nil))
    (bss_cons (bs_for PassesOwn.never rfl (bi_enum T.b_enumerate (b_slice s_any (bv 0) (bo_some b_int) (bo_some b_int))) (bg_tup rfl (bgs_cons (bg_name (i := 5) sc_law.nd rfl (by first | exact Or.inl rfl | exact Or.inr rfl)) (bgs_cons (bg_name (i := 6) sc_law.nd rfl (by first | exact Or.inl rfl | exact Or.inr rfl)) bgs_nil)))
      (bss_cons (bs_set (i := 7) sc_law.nd rfl (by first | exact Or.inl rfl | exact Or.inr rfl) (b_f N__law_stream G__law_stream (hr.mono (by first | decide | omega)) (ba_c (b_op o_add (bv 6) (b_op o_mul b_int (bv 5))) (ba_c b_int ba_nil rfl) rfl)))
    (bss_cons (bs_set (i := 8) sc_law.nd rfl (by first | exact Or.inl rfl | exact Or.inr rfl) (b_op op_mod (b_ix ix_seq (bv 7) b_int (fun _ _ => rfl)) b_int))
    (bss_cons (bs_set (i := 9) sc_law.nd rfl (by first | exact Or.inl rfl | exact Or.inr rfl) (b_f N__law_row G__law_row (hr.mono (by first | decide | omega)) (ba_c (bv 1) (ba_c (b_ix ix_seq (bv 7) b_int (fun _ _ => rfl)) ba_nil rfl) rfl)))
    (bss_cons (bs_if (bt_cmp (o_eqD (room100 hr)) (b_op op_mod (b_op op_fdiv (b_ix ix_seq (bv 7) b_int (fun _ _ => rfl)) b_int) b_int) b_int (nomark _))
      (bss_cons (bs_if (bt_cmp o_isnt (b_m0 Z.c_Hand Z.me_Hand_clear G_Hand_clear pass0 hb0_Hand_clear hv0_Hand_clear (hr.mono (by first | decide | omega)) (b_ix ix_seq (bv 2) (bv 8) (fun _ _ => rfl))) b_non (nomark _))
      (bss_one (bs_ret b_bl))
      bss_nil)
    (bss_one (bs_asg (b_lst ba_nil) (bg_sub (bv 3) (bv 8) set_list))))
      (bss_one (bs_if (bt_cmp o_isnt (b_m Z.c_Hand Z.me_Hand_put G_Hand_put pass0 hb0_Hand_put hv0_Hand_put (hr.mono (by first | decide | omega)) (b_ix ix_seq (bv 2) (bv 8) (fun _ _ => rfl)) (ba_c (b_ix ix_seq (bv 9) b_int (fun _ _ => rfl)) (ba_c (b_ix ix_seq (bv 9) b_int (fun _ _ => rfl)) (ba_c (b_ix ix_seq (bv 9) b_int (fun _ _ => rfl)) ba_nil rfl) rfl) rfl)) b_non (nomark _))
      (bss_one (bs_ret b_bl))
      (bss_one (bs_asg (b_f N__law_put G__law_put (hr.mono (by first | decide | omega)) (ba_c (b_ix ix_seq (bv 3) (bv 8) (fun _ _ => rfl)) (ba_c (bv 9) ba_nil rfl) rfl)) (bg_sub (bv 3) (bv 8) set_list))))))
    (bss_one (bs_if (bt_w (bw_and (bt_cmp (o_eqD (room100 hr)) (b_op op_mod (b_op op_fdiv (b_ix ix_seq (bv 7) b_int (fun _ _ => rfl)) b_int) b_int) b_int (nomark _)) (bw_and1 (bt_not (bt_val (b_f N__law_asked G__law_asked (hr.mono (by first | decide | omega)) (ba_c (b_ix ix_seq (bv 2) (bv 8) (fun _ _ => rfl)) (ba_c (b_ix ix_seq (bv 3) (bv 8) (fun _ _ => rfl)) (ba_c (bv 1) (ba_c (b_ix ix_seq (bv 7) b_int (fun _ _ => rfl)) (ba_c (bv 4) ba_nil rfl) rfl) rfl) rfl) rfl)) (fun _ => rfl))))))
      (bss_one (bs_ret b_bl))
      bss_nil)))))))
    (bss_cons (bs_for PassesOwn.never rfl (bi_r1 T.b_range (ba_c b_int ba_nil rfl)) (bg_name (i := 8) sc_law.nd rfl (by first | exact Or.inl rfl | exact Or.inr rfl))
      (bss_one (bs_if (bt_not (bt_val (b_f N__law_asked G__law_asked (hr.mono (by first | decide | omega)) (ba_c (b_ix ix_seq (bv 2) (bv 8) (fun _ _ => rfl)) (ba_c (b_ix ix_seq (bv 3) (bv 8) (fun _ _ => rfl)) (ba_c (bv 1) (ba_c (b_op op_mod (b_f N__law_cell_at G__law_cell_at (hr.mono (by first | decide | omega)) (ba_c (bv 0) (ba_c b_int ba_nil rfl) rfl)) (b_op op_pow b_int b_int)) (ba_c (bv 4) ba_nil rfl) rfl) rfl) rfl) rfl)) (fun _ => rfl)))
      (bss_one (bs_ret b_bl))
      bss_nil)))
    (bss_one (bs_ret (b_cmp (o_eqD (room100 hr)) (b_lc (x := "_law_pair") (ix := []) (fv := []) (osc := defScope s_law) rfl ⟨rfl, by decide +kernel, by decide +kernel, by rfl, by decide +kernel, by decide +kernel, by decide +kernel⟩ (by rfl) (bi_list (bv 4)) (fun _ _ _ _ => (bf_one (bt_cmp (o_neD (room100 hr)) (b_ix (ix_seqK (K := K) rfl) (bv 0) b_int (fun _ _ => rfl)) (b_ix (ix_seqK (K := K) rfl) (bv 0) b_int (fun _ _ => rfl)) (nomark _)))) (fun _ _ _ _ => (bv 0))) (b_lst ba_nil) (nomark _)))))))))), ?_⟩
    kas_types
    lcg_off
    refine cell_use (k := 0) hS rfl ?_
    lcg_off
    refine keys_use (by decide) (by decide) (fun pk H1 ks nk s1 hk1 k1 k2 k3 => ?_)
    lcg_off
    refine hnew_use (fun a0 t0 H2 na0 nt0 hA0 s2 => ?_)
    lcg_off
    refine hnew_use (fun a1 t1 H3 na1 nt1 hA1 s3 => ?_)
    lcg_off
    rename_i pH H4 nH s4 h4 r0 H5 n5 s5 h5 r1 H6 n6 s6 h6 pr H7 n7 s7 h7 pd H8 n8 s8 h8
    have s12 : Same H H2 := s1.trans s2
    have s13 : Same H H3 := s12.trans s3
    have s14 : Same H H4 := s13.trans s4
    have s15 : Same H H5 := s14.trans s5
    have s16 : Same H H6 := s15.trans s6
    have s17 : Same H H7 := s16.trans s7
    have s18 : Same H H8 := s17.trans s8
    refine rd_slL (hS.same s18) (fun pe H9 n9 s9 h9 => ?_)
    obtain ⟨cs, hcs⟩ : ∃ cs, cutV (ns.map V.int) (some 1) (some 61) = cs := ⟨_, rfl⟩
    have hcl : cs.length ≤ 63 := by
      have := cutV_length (ns.map V.int) (some 1) (some 61)
      rw [hcs, List.length_map] at this
      omega
    have hci : ∀ v ∈ cs, ∃ n : Int, v = .int n := fun v hv => by
      rw [← hcs] at hv
      obtain ⟨n, _, e⟩ := List.mem_map.mp (List.mem_of_mem_drop (List.mem_of_mem_take hv) : v ∈ ns.map V.int)
      exact ⟨n, e.symm⟩
    rw [hcs] at h9
    clear hcs
    have s48 : Same H4 H8 := ((s5.trans s6).trans s7).trans s8
    have L0 : LawI c H pk pH pr pd ks 0 H9 (fun j => if j = 0 then ⟨a0, t0, r0, [], []⟩ else ⟨a1, t1, r1, [], []⟩) [] := by
      have q39 : Same H3 H9 := (s4.trans s48).trans s9
      have ne : ∀ {b d : Addr} {X : Hp} {o : HO}, X b = some o → X d = none → b ≠ d := fun {b d X o} e1 e2 z => by rw [z, e2] at e1; cases e1
      have hk3 := s3 _ _ (s2 _ _ hk1)
      refine ⟨s18.trans s9, q39 _ _ hk3, s9 _ _ (s48 _ _ h4), s9 _ _ (s8 _ _ h7), fun k hk => ?_, fun j k hj hk n b hb hb' => ?_, s9 _ _ h8, fun v hv => by (cases hv), ?_, ?_, ?_, ?_, ?_, s16.free n7, s17.free n8⟩
      · have : k = 0 ∨ k = 1 := by omega
        rcases this with rfl | rfl
        · refine ⟨(hA0.same s3).same q39, ⟨List.Pairwise.nil, by simp, fun q hq => by (cases hq)⟩, ⟨[], s9 _ _ (s8 _ _ (s7 _ _ (s6 _ _ h5))), Reps.nil'⟩, List.Pairwise.nil, fun x => Iff.rfl, Nat.le_refl _, fun e he => by (cases he), fun b hb => ?_, ne (s6 _ _ h5) n7, ne (s7 _ _ (s6 _ _ h5)) n8⟩
          have hb2 : b = a0 ∨ b = t0 := by simpa [HD.fp, T40.fp] using hb
          rcases hb2 with rfl | rfl
          · exact s1.free na0
          · exact s1.free nt0
        · refine ⟨hA1.same q39, ⟨List.Pairwise.nil, by simp, fun q hq => by (cases hq)⟩, ⟨[], s9 _ _ (s8 _ _ (s7 _ _ h6)), Reps.nil'⟩, List.Pairwise.nil, fun x => Iff.rfl, Nat.le_refl _, fun e he => by (cases he), fun b hb => ?_, ne h6 n7, ne (s7 _ _ h6) n8⟩
          have hb2 : b = a1 ∨ b = t1 := by simpa [HD.fp, T40.fp] using hb
          rcases hb2 with rfl | rfl
          · exact s12.free na1
          · exact s12.free nt1
      · have key : ∀ b, b ∈ T40.fp a0 t0 [] → b ∈ T40.fp a1 t1 [] → False := fun b h0 h1 => by
          have hb2 : b = a1 ∨ b = t1 := by simpa [T40.fp] using h1
          rcases hb2 with rfl | rfl
          · exact hA0.notN na1 h0
          · exact hA0.notN nt1 h0
        have hj2 : j = 0 ∨ j = 1 := by omega
        have hk2 : k = 0 ∨ k = 1 := by omega
        rcases hj2 with rfl | rfl <;> rcases hk2 with rfl | rfl
        · exact n rfl
        · exact key b hb hb'
        · exact key b hb' hb
        · exact n rfl
      · exact ne (s6 _ _ (s5 _ _ (s4 _ _ hk3))) n7
      · exact ne (s7 _ _ (s6 _ _ (s5 _ _ (s4 _ _ hk3)))) n8
      · exact ne (s6 _ _ (s5 _ _ h4)) n7
      · exact ne (s7 _ _ (s6 _ _ (s5 _ _ h4))) n8
      · exact ne h7 n8
    have hpe1 : pe ≠ pr := fun z => by rw [z, s8 _ _ h7] at n9; cases n9
    have hpe2 : pe ≠ pd := fun z => by rw [z, h8] at n9; cases n9
    clear n5 n6 n7 n8 n9 nH h4 h5 h6 h7 h8 s48 s2 s3 s4 s5 s6 s7 s8 s12 s13 s14 s15 s16 s17 hA0 hA1 na0 nt0 na1 nt1 hk1 nk s1 s18 s9
    lcg_off
    refine rd_exE (SqL.of h9) ?_
    refine forE (xs := cs) (fun i σ G => ∃ (D : Nat → HD) (hs : List V) (o5 o6 o7 o8 o9 : Option V), σ = [some (.ref a), some (.ref pk), some (.ref pH), some (.ref pr), some (.ref pd), o5, o6, o7, o8, o9] ∧ LawI c H pk pH pr pd ks i G D hs ∧ hs.length ≤ 6 * i ∧ G pe = some (.lst cs)) ⟨_, [], none, none, none, none, none, rfl, L0, Nat.le_refl _, h9⟩ (fun i σ G h => by obtain ⟨_, _, _, _, _, _, _, rfl, _, _, h⟩ := h; exact SqL.of h) (fun i x p' σ G G1 hi hx h np' sp' hp' => ?_) (fun σ G h => ?_)
    · obtain ⟨D, hs, o5, o6, o7, o8, o9, rfl, L, hhl, hpe⟩ := h
      obtain ⟨cl, rfl⟩ := hci x (List.mem_of_getElem? hx)
      lcg_off
      refine stream_use (by decide) (by decide) (fun pn G2 nu nn sn hn2 hnl hnp => ?_)
      obtain ⟨x0, x1, x2, rfl⟩ : ∃ x0 x1 x2, nu = [x0, x1, x2] := by
        match nu, hnl with
        | [x0, x1, x2], _ => exact ⟨x0, x1, x2, rfl⟩
      have hn3 : G2 pn = some (.lst [.int x0, .int x1, .int x2]) := hn2
      obtain ⟨k, hk, hk2⟩ : ∃ k : Nat, x0 % 2 = (k : Int) ∧ k < 2 := ⟨(x0 % 2).toNat, by omega, by omega⟩
      lcg_off
      rw [hk]
      have L2 := L.keep (sp'.trans sn)
      refine row_use ks L2.keys k1 (fun v G3 e s3 he hek hst => ?_)
      have L3 := L2.keep s3
      have hn4 := s3 _ _ hn3
      have hpe3 : G3 pe = some (.lst cs) := s3 _ _ (sn _ _ (sp' _ _ hpe))
      have hpnr : pn ≠ pr := fun z => by have := (L.keep sp').rws; rw [← z, nn] at this; cases this
      obtain ⟨cc, xx, rfl, hcc, hxx⟩ := ent_at he
      clear hn2 hn3 hnl hnp L2 nn
      refine rd_go ?_
      dsimp only [List.set]
      change tSeq _ _ _ _ _
      with_reducible refine' seq_cut (fun σ' G' => ∃ D', σ' = [some (.ref a), some (.ref pk), some (.ref pH), some (.ref pr), some (.ref pd), some (.int (i : Int)), some (.int cl), some (.ref pn), some (.int (k : Int)), some (.ref cc)] ∧ LawI c H pk pH pr pd ks (i + 1) G' D' hs ∧ G' pe = some (.lst cs) ∧ G' pn = some (.lst [.int x0, .int x1, .int x2])) ?a1 ?b1
      · intro nx hnx
        have hH := L3.hands
        have hR := L3.rws
        have O := L3.one k hk2
        lcg_off
        refine ite_dec (fun w0 => ?_) (fun w0 => ?_)
        · lcg_off
          refine rd_ixL (SqL.of hH) (pair_ixD (fun j => V.ref (D j).a) hk2) ?_
          refine rd_meth O.hand rfl ?_
          lcg_off
          refine clear_use O.hand (fun t' G4 hA4 ch4 nt4 => ?_)
          have ch5 : Chg (D k).fp G3 G4 := ch4.mono fun b hb => by rw [List.mem_singleton.mp hb]; exact List.mem_cons_self
          have hR4 := ch5 _ _ (O.hand.notL hR) hR
          lcg_off
          rename_i rn G5 n5 s5 h5
          refine rd_setL (s5 _ _ hR4) (by simp; omega) ?_
          obtain ⟨LF, fr⟩ := L3.fin hk2 (rs' := []) hA4 ⟨List.Pairwise.nil, by simp, fun q hq => by (cases hq)⟩ ch5 (fun b hb => by
            have hb2 : b = (D k).a ∨ b = t' := by simpa [T40.fp] using hb
            rcases hb2 with rfl | rfl
            · exact .inl List.mem_cons_self
            · exact .inr nt4) n5 s5 h5 Reps.nil' List.Pairwise.nil (fun x => Iff.rfl) (Nat.zero_le _) (fun e he => by (cases he))
          exact hnx _ _ ⟨_, rfl, LF, fr _ _ hpe3 hpe1, fr _ _ hn4 hpnr⟩
        · lcg_off
          refine rd_ixL (SqL.of hH) (pair_ixD (fun j => V.ref (D j).a) hk2) ?_
          refine rd_meth O.hand rfl ?_
          lcg_off
          have pmE : (flat (D k).g).Perm (D k).rs := (List.perm_ext_iff_of_nodup (nodup_of_map O.ok.nd) (nodup_of_map O.nd)).mpr O.all
          refine hput_use O.hand O.ok hxx (by rw [pmE.length_eq]; have := O.few; omega) (fun G4 g' hA4 hg4 ch4 hf4 hm4 => ?_)
          have hR4 := ch4 _ _ (O.hand.notL hR) hR
          have tu4 := O.hand.tups ch4
          obtain ⟨xs, hx1, hx2⟩ := O.rows
          lcg_off
          refine rd_ixL (SqL.of hR4) (pair_ixD (fun j => V.ref (D j).r) hk2) ?_
          lcg_off
          refine put_use (D k).rs e (ch4 _ _ (O.hand.notL hx1) hx1) (ents_stay hx2 tu4) (ent_stay he tu4) (by have := O.few; omega) (fun rn G5 ys n5 s5 h5 hy5 => ?_)
          lcg_off
          refine rd_setL (s5 _ _ hR4) (by simp; omega) ?_
          obtain ⟨LF, fr⟩ := L3.fin hk2 (rs' := putE (D k).rs e) hA4 hg4 ch4 hf4 n5 s5 h5 hy5 (putE_nd O.nd) (fun x => by rw [hm4, putE_mem, O.all]) (by have := putE_len (rs := (D k).rs) (e := e); have := O.few; omega) (fun x hx => by
            rcases putE_mem.mp hx with rfl | ⟨h1, _⟩
            · exact hst
            · exact O.pos x h1)
          exact hnx _ _ ⟨_, rfl, LF, fr _ _ hpe3 hpe1, fr _ _ hn4 hpnr⟩
      · intro σ' G4 h
        obtain ⟨D', rfl, L4, hpe4, hn4⟩ := h
        have hH := L4.hands
        have hR := L4.rws
        lcg_off
        refine ite_dec (fun w0 => ?_) (fun w0 => ?_)
        · lcg_off
          refine rd_ixL (SqL.of hH) (pair_ixD (fun j => V.ref (D' j).a) hk2) ?_
          lcg_off
          refine rd_ixL (SqL.of hR) (pair_ixD (fun j => V.ref (D' j).r) hk2) ?_
          lcg_off
          refine ask_use (L4.ask (by omega) k1 k2 k3 hk2) (by omega) (fun G5 hs' kx A hl' => ?_)
          lcg_off
          exact ⟨D', hs', _, _, _, _, _, rfl, L4.asked hk2 kx A, by omega, kx _ _ hpe2 hpe4⟩
        · refine ite_f (by simp) ?_
          lcg_off
          exact ⟨D', hs, _, _, _, _, _, rfl, L4, by omega, hpe4⟩
    · obtain ⟨D, hs, o5, o6, o7, o8, o9, rfl, L, hhl, hpe⟩ := h
      lcg_off
      refine forR (fun j σ F => ∃ (hs' : List V) (o5 o6 o7 o8 o9 : Option V), σ = [some (.ref a), some (.ref pk), some (.ref pH), some (.ref pr), some (.ref pd), o5, o6, o7, o8, o9] ∧ LawI c H pk pH pr pd ks cs.length F D hs' ∧ hs'.length ≤ hs.length + 6 * j) ⟨hs, _, _, _, _, _, rfl, L, Nat.le_refl _⟩ (fun j σ F hj h => ?_) (fun σ F h => ?_)
      · obtain ⟨hs', o5, o6, o7, o8, o9, rfl, L4, hl4⟩ := h
        have hj2 : j < 2 := hj
        have hH := L4.hands
        have hR := L4.rws
        lcg_off
        rw [show (0 : Int) + (j : Int) = (j : Int) by omega]
        refine rd_ixL (SqL.of hH) (pair_ixD (fun j => V.ref (D j).a) hj2) ?_
        lcg_off
        refine rd_ixL (SqL.of hR) (pair_ixD (fun j => V.ref (D j).r) hj2) ?_
        lcg_off
        refine cell_use (k := 1) (hS.same L4.same) rfl ?_
        lcg_off
        refine ask_use (L4.ask (by omega) k1 k2 k3 hj2) (by omega) (fun G5 hs2 kx A hl' => ?_)
        lcg_off
        exact ⟨hs2, _, _, _, _, _, rfl, L4.asked hj2 kx A, by omega⟩
      · obtain ⟨hs', o5, o6, o7, o8, o9, rfl, L4, hl4⟩ := h
        lcg_off
        have hd := L4.held
        refine rd_exL (SqL.of hd) ?_
        refine lcWf (xs := hs') (fun i us E1 => E1 = F ∧ us = []) (by rw [sizeLine_eq]; omega) ⟨rfl, rfl⟩ (fun i us E1 h => by obtain ⟨rfl, rfl⟩ := h; exact ⟨SqL.of hd, Nat.zero_le _⟩) (fun i v us E1 hv h => ?_) (fun us p9 E1 G9 h n9 s9 h9 => ?_)
        · obtain ⟨rfl, rfl⟩ := h
          obtain ⟨b, p, q, xs, ys, es, rfl, _, _, _, gb, gp, gq, r1, r2⟩ := L4.each v (List.mem_of_getElem? hv)
          lcg_off
          refine rd_neE es gp gq r1 r2 ?_
          lcg_off
          exact ⟨rfl, rfl⟩
        obtain ⟨rfl, rfl⟩ := h
        lcg_off
        rename_i p10 G10 n10 s10 h10
        refine rd_eqE [] (s10 _ _ h9) h10 Reps.nil' Reps.nil' ?_
        exact kk _
end
theorem all_mk {l : PySem.W.OpenLaw} {w : World} {K : PySem.W.Frag} {h : Heap} {mg : Str → Option Value} {fa f1 f2 f3 f4 f5 f6 f7 f8 f9 f10 f11 f12 f13 f14 f15 f16 : Addr} (X : K.In h) (G : h.Ns mainGlobals mg) (hfa : mg "law" = some (.ref fa))
    {od1 an1 : Option Addr} {sl1 : Array (Option Value)} {oc1 kV1 dc1 pm1 cd1 ct1 : Value}
    {od2 an2 : Option Addr} {sl2 : Array (Option Value)} {oc2 kV2 dc2 pm2 cd2 ct2 : Value}
    {od3 an3 : Option Addr} {sl3 : Array (Option Value)} {oc3 kV3 dc3 pm3 cd3 ct3 : Value}
    {od4 an4 : Option Addr} {sl4 : Array (Option Value)} {oc4 kV4 dc4 pm4 cd4 ct4 : Value}
    {od5 an5 : Option Addr} {sl5 : Array (Option Value)} {oc5 kV5 dc5 pm5 cd5 ct5 : Value}
    {od6 an6 : Option Addr} {sl6 : Array (Option Value)} {oc6 kV6 dc6 pm6 cd6 ct6 : Value}
    {od7 an7 : Option Addr} {sl7 : Array (Option Value)} {oc7 kV7 dc7 pm7 cd7 ct7 : Value}
    {od8 an8 : Option Addr} {sl8 : Array (Option Value)} {oc8 kV8 dc8 pm8 cd8 ct8 : Value}
    {od9 an9 : Option Addr} {sl9 : Array (Option Value)} {oc9 kV9 dc9 pm9 cd9 ct9 : Value}
    {od10 an10 : Option Addr} {sl10 : Array (Option Value)} {oc10 kV10 dc10 pm10 cd10 ct10 : Value}
    {od11 an11 : Option Addr} {sl11 : Array (Option Value)} {oc11 kV11 dc11 pm11 cd11 ct11 : Value}
    {od12 an12 : Option Addr} {sl12 : Array (Option Value)} {oc12 kV12 dc12 pm12 cd12 ct12 : Value}
    {od13 an13 : Option Addr} {sl13 : Array (Option Value)} {oc13 kV13 dc13 pm13 cd13 ct13 : Value}
    {od14 an14 : Option Addr} {sl14 : Array (Option Value)} {oc14 kV14 dc14 pm14 cd14 ct14 : Value}
    {od15 an15 : Option Addr} {sl15 : Array (Option Value)} {oc15 kV15 dc15 pm15 cd15 ct15 : Value}
    {od16 an16 : Option Addr} {sl16 : Array (Option Value)} {oc16 kV16 dc16 pm16 cd16 ct16 : Value}
    (a1 : PySem.W.nsIn K mainGlobals "rank_of" = some (some (.ref f1))) (l1 : K.lookup f1 = some ⟨oc1, od1, .func (PySem.W.fnOf "rank_of" "rank_of" (defArgs s_rank_of) (defBody s_rank_of) (defScope s_rank_of) .none kV1 dc1 pm1 an1 cd1 ct1), sl1⟩) (c1 : PySem.W.codeIn K cd1 "rank_of" = true) (k1 : PySem.W.keepIn K (.ref f1) = true)
    (a2 : PySem.W.nsIn K mainGlobals "in_order" = some (some (.ref f2))) (l2 : K.lookup f2 = some ⟨oc2, od2, .func (PySem.W.fnOf "in_order" "in_order" (defArgs s_in_order) (defBody s_in_order) (defScope s_in_order) .none kV2 dc2 pm2 an2 cd2 ct2), sl2⟩) (c2 : PySem.W.codeIn K cd2 "in_order" = true) (k2 : PySem.W.keepIn K (.ref f2) = true)
    (a3 : PySem.W.nsIn K mainGlobals "stretch" = some (some (.ref f3))) (l3 : K.lookup f3 = some ⟨oc3, od3, .func (PySem.W.fnOf "stretch" "stretch" (defArgs s_stretch) (defBody s_stretch) (defScope s_stretch) .none kV3 dc3 pm3 an3 cd3 ct3), sl3⟩) (c3 : PySem.W.codeIn K cd3 "stretch" = true) (k3 : PySem.W.keepIn K (.ref f3) = true)
    (a4 : PySem.W.nsIn K mainGlobals "newest" = some (some (.ref f4))) (l4 : K.lookup f4 = some ⟨oc4, od4, .func (PySem.W.fnOf "newest" "newest" (defArgs s_newest) (defBody s_newest) (defScope s_newest) .none kV4 dc4 pm4 an4 cd4 ct4), sl4⟩) (c4 : PySem.W.codeIn K cd4 "newest" = true) (k4 : PySem.W.keepIn K (.ref f4) = true)
    (a5 : PySem.W.nsIn K mainGlobals "_law_cell_at" = some (some (.ref f5))) (l5 : K.lookup f5 = some ⟨oc5, od5, .func (PySem.W.fnOf "_law_cell_at" "_law_cell_at" (defArgs s__law_cell_at) (defBody s__law_cell_at) (defScope s__law_cell_at) .none kV5 dc5 pm5 an5 cd5 ct5), sl5⟩) (c5 : PySem.W.codeIn K cd5 "_law_cell_at" = true) (k5 : PySem.W.keepIn K (.ref f5) = true)
    (a6 : PySem.W.nsIn K mainGlobals "_law_stream" = some (some (.ref f6))) (l6 : K.lookup f6 = some ⟨oc6, od6, .func (PySem.W.fnOf "_law_stream" "_law_stream" (defArgs s__law_stream) (defBody s__law_stream) (defScope s__law_stream) .none kV6 dc6 pm6 an6 cd6 ct6), sl6⟩) (c6 : PySem.W.codeIn K cd6 "_law_stream" = true) (k6 : PySem.W.keepIn K (.ref f6) = true)
    (a7 : PySem.W.nsIn K mainGlobals "_law_sign" = some (some (.ref f7))) (l7 : K.lookup f7 = some ⟨oc7, od7, .func (PySem.W.fnOf "_law_sign" "_law_sign" (defArgs s__law_sign) (defBody s__law_sign) (defScope s__law_sign) .none kV7 dc7 pm7 an7 cd7 ct7), sl7⟩) (c7 : PySem.W.codeIn K cd7 "_law_sign" = true) (k7 : PySem.W.keepIn K (.ref f7) = true)
    (a8 : PySem.W.nsIn K mainGlobals "_law_text" = some (some (.ref f8))) (l8 : K.lookup f8 = some ⟨oc8, od8, .func (PySem.W.fnOf "_law_text" "_law_text" (defArgs s__law_text) (defBody s__law_text) (defScope s__law_text) .none kV8 dc8 pm8 an8 cd8 ct8), sl8⟩) (c8 : PySem.W.codeIn K cd8 "_law_text" = true) (k8 : PySem.W.keepIn K (.ref f8) = true)
    (a9 : PySem.W.nsIn K mainGlobals "_law_keys" = some (some (.ref f9))) (l9 : K.lookup f9 = some ⟨oc9, od9, .func (PySem.W.fnOf "_law_keys" "_law_keys" (defArgs s__law_keys) (defBody s__law_keys) (defScope s__law_keys) .none kV9 dc9 pm9 an9 cd9 ct9), sl9⟩) (c9 : PySem.W.codeIn K cd9 "_law_keys" = true) (k9 : PySem.W.keepIn K (.ref f9) = true)
    (a10 : PySem.W.nsIn K mainGlobals "_law_row" = some (some (.ref f10))) (l10 : K.lookup f10 = some ⟨oc10, od10, .func (PySem.W.fnOf "_law_row" "_law_row" (defArgs s__law_row) (defBody s__law_row) (defScope s__law_row) .none kV10 dc10 pm10 an10 cd10 ct10), sl10⟩) (c10 : PySem.W.codeIn K cd10 "_law_row" = true) (k10 : PySem.W.keepIn K (.ref f10) = true)
    (a11 : PySem.W.nsIn K mainGlobals "_law_put" = some (some (.ref f11))) (l11 : K.lookup f11 = some ⟨oc11, od11, .func (PySem.W.fnOf "_law_put" "_law_put" (defArgs s__law_put) (defBody s__law_put) (defScope s__law_put) .none kV11 dc11 pm11 an11 cd11 ct11), sl11⟩) (c11 : PySem.W.codeIn K cd11 "_law_put" = true) (k11 : PySem.W.keepIn K (.ref f11) = true)
    (a12 : PySem.W.nsIn K mainGlobals "_law_ahead" = some (some (.ref f12))) (l12 : K.lookup f12 = some ⟨oc12, od12, .func (PySem.W.fnOf "_law_ahead" "_law_ahead" (defArgs s__law_ahead) (defBody s__law_ahead) (defScope s__law_ahead) .none kV12 dc12 pm12 an12 cd12 ct12), sl12⟩) (c12 : PySem.W.codeIn K cd12 "_law_ahead" = true) (k12 : PySem.W.keepIn K (.ref f12) = true)
    (a13 : PySem.W.nsIn K mainGlobals "_law_in_order" = some (some (.ref f13))) (l13 : K.lookup f13 = some ⟨oc13, od13, .func (PySem.W.fnOf "_law_in_order" "_law_in_order" (defArgs s__law_in_order) (defBody s__law_in_order) (defScope s__law_in_order) .none kV13 dc13 pm13 an13 cd13 ct13), sl13⟩) (c13 : PySem.W.codeIn K cd13 "_law_in_order" = true) (k13 : PySem.W.keepIn K (.ref f13) = true)
    (a14 : PySem.W.nsIn K mainGlobals "_law_found" = some (some (.ref f14))) (l14 : K.lookup f14 = some ⟨oc14, od14, .func (PySem.W.fnOf "_law_found" "_law_found" (defArgs s__law_found) (defBody s__law_found) (defScope s__law_found) .none kV14 dc14 pm14 an14 cd14 ct14), sl14⟩) (c14 : PySem.W.codeIn K cd14 "_law_found" = true) (k14 : PySem.W.keepIn K (.ref f14) = true)
    (a15 : PySem.W.nsIn K mainGlobals "_law_asked" = some (some (.ref f15))) (l15 : K.lookup f15 = some ⟨oc15, od15, .func (PySem.W.fnOf "_law_asked" "_law_asked" (defArgs s__law_asked) (defBody s__law_asked) (defScope s__law_asked) .none kV15 dc15 pm15 an15 cd15 ct15), sl15⟩) (c15 : PySem.W.codeIn K cd15 "_law_asked" = true) (k15 : PySem.W.keepIn K (.ref f15) = true)
    (a16 : PySem.W.nsIn K mainGlobals "law" = some (some (.ref f16))) (l16 : K.lookup f16 = some ⟨oc16, od16, .func (PySem.W.fnOf "law" "law" (defArgs s_law) (defBody s_law) (defScope s_law) .none kV16 dc16 pm16 an16 cd16 ct16), sl16⟩) (c16 : PySem.W.codeIn K cd16 "law" = true) (k16 : PySem.W.keepIn K (.ref f16) = true)
    (z0 : PySem.W.nsIn K mainGlobals "enumerate" = some none)
    (z1 : PySem.W.nsIn K mainGlobals "isinstance" = some none)
    (z2 : PySem.W.nsIn K mainGlobals "len" = some none)
    (z3 : PySem.W.nsIn K mainGlobals "list" = some none)
    (z4 : PySem.W.nsIn K mainGlobals "max" = some none)
    (z5 : PySem.W.nsIn K mainGlobals "min" = some none)
    (z6 : PySem.W.nsIn K mainGlobals "range" = some none)
    (z7 : PySem.W.nsIn K mainGlobals "sorted" = some none)
    (z8 : PySem.W.nsIn K mainGlobals "sum" = some none)
    {CHand : Addr}
    (m_Hand : PySem.W.nsIn K mainGlobals "Hand" = some (some (.ref CHand)))
    {CHand_init : Addr} {odMHand_init anMHand_init : Option Addr} {slMHand_init : Array (Option Value)} {ocMHand_init kVMHand_init dcMHand_init pmMHand_init cdMHand_init ctMHand_init : Value}
    (ai_Hand_init : PySem.W.findIn K (.ref CHand) "__init__" = some (some (.ref CHand_init))) (li_Hand_init : K.lookup CHand_init = some ⟨ocMHand_init, odMHand_init, .func (PySem.W.fnOf "__init__" "Hand.__init__" (defArgs s_Hand_init) (defBody s_Hand_init) (defScope s_Hand_init) .none kVMHand_init dcMHand_init pmMHand_init anMHand_init cdMHand_init ctMHand_init), slMHand_init⟩) (ci_Hand_init : PySem.W.codeIn K cdMHand_init "Hand.__init__" = true) (ki_Hand_init : PySem.W.keepIn K (.ref CHand_init) = true)
    {CHand_put : Addr} {odMHand_put anMHand_put : Option Addr} {slMHand_put : Array (Option Value)} {ocMHand_put kVMHand_put dcMHand_put pmMHand_put cdMHand_put ctMHand_put : Value}
    (ai_Hand_put : PySem.W.findIn K (.ref CHand) "put" = some (some (.ref CHand_put))) (li_Hand_put : K.lookup CHand_put = some ⟨ocMHand_put, odMHand_put, .func (PySem.W.fnOf "put" "Hand.put" (defArgs s_Hand_put) (defBody s_Hand_put) (defScope s_Hand_put) .none kVMHand_put dcMHand_put pmMHand_put anMHand_put cdMHand_put ctMHand_put), slMHand_put⟩) (ci_Hand_put : PySem.W.codeIn K cdMHand_put "Hand.put" = true) (ki_Hand_put : PySem.W.keepIn K (.ref CHand_put) = true)
    {CHand_find : Addr} {odMHand_find anMHand_find : Option Addr} {slMHand_find : Array (Option Value)} {ocMHand_find kVMHand_find dcMHand_find pmMHand_find cdMHand_find ctMHand_find : Value}
    (ai_Hand_find : PySem.W.findIn K (.ref CHand) "find" = some (some (.ref CHand_find))) (li_Hand_find : K.lookup CHand_find = some ⟨ocMHand_find, odMHand_find, .func (PySem.W.fnOf "find" "Hand.find" (defArgs s_Hand_find) (defBody s_Hand_find) (defScope s_Hand_find) .none kVMHand_find dcMHand_find pmMHand_find anMHand_find cdMHand_find ctMHand_find), slMHand_find⟩) (ci_Hand_find : PySem.W.codeIn K cdMHand_find "Hand.find" = true) (ki_Hand_find : PySem.W.keepIn K (.ref CHand_find) = true)
    {CHand_many : Addr} {odMHand_many anMHand_many : Option Addr} {slMHand_many : Array (Option Value)} {ocMHand_many kVMHand_many dcMHand_many pmMHand_many cdMHand_many ctMHand_many : Value}
    (ai_Hand_many : PySem.W.findIn K (.ref CHand) "many" = some (some (.ref CHand_many))) (li_Hand_many : K.lookup CHand_many = some ⟨ocMHand_many, odMHand_many, .func (PySem.W.fnOf "many" "Hand.many" (defArgs s_Hand_many) (defBody s_Hand_many) (defScope s_Hand_many) .none kVMHand_many dcMHand_many pmMHand_many anMHand_many cdMHand_many ctMHand_many), slMHand_many⟩) (ci_Hand_many : PySem.W.codeIn K cdMHand_many "Hand.many" = true) (ki_Hand_many : PySem.W.keepIn K (.ref CHand_many) = true)
    {CHand_greatest : Addr} {odMHand_greatest anMHand_greatest : Option Addr} {slMHand_greatest : Array (Option Value)} {ocMHand_greatest kVMHand_greatest dcMHand_greatest pmMHand_greatest cdMHand_greatest ctMHand_greatest : Value}
    (ai_Hand_greatest : PySem.W.findIn K (.ref CHand) "greatest" = some (some (.ref CHand_greatest))) (li_Hand_greatest : K.lookup CHand_greatest = some ⟨ocMHand_greatest, odMHand_greatest, .func (PySem.W.fnOf "greatest" "Hand.greatest" (defArgs s_Hand_greatest) (defBody s_Hand_greatest) (defScope s_Hand_greatest) .none kVMHand_greatest dcMHand_greatest pmMHand_greatest anMHand_greatest cdMHand_greatest ctMHand_greatest), slMHand_greatest⟩) (ci_Hand_greatest : PySem.W.codeIn K cdMHand_greatest "Hand.greatest" = true) (ki_Hand_greatest : PySem.W.keepIn K (.ref CHand_greatest) = true)
    {CHand_rows : Addr} {odMHand_rows anMHand_rows : Option Addr} {slMHand_rows : Array (Option Value)} {ocMHand_rows kVMHand_rows dcMHand_rows pmMHand_rows cdMHand_rows ctMHand_rows : Value}
    (ai_Hand_rows : PySem.W.findIn K (.ref CHand) "rows" = some (some (.ref CHand_rows))) (li_Hand_rows : K.lookup CHand_rows = some ⟨ocMHand_rows, odMHand_rows, .func (PySem.W.fnOf "rows" "Hand.rows" (defArgs s_Hand_rows) (defBody s_Hand_rows) (defScope s_Hand_rows) .none kVMHand_rows dcMHand_rows pmMHand_rows anMHand_rows cdMHand_rows ctMHand_rows), slMHand_rows⟩) (ci_Hand_rows : PySem.W.codeIn K cdMHand_rows "Hand.rows" = true) (ki_Hand_rows : PySem.W.keepIn K (.ref CHand_rows) = true)
    {CHand_between dTHand_between : Addr} {odMHand_between anMHand_between : Option Addr} {slMHand_between : Array (Option Value)} {ocMHand_between kVMHand_between dcMHand_between pmMHand_between cdMHand_between ctMHand_between : Value}
    (ai_Hand_between : PySem.W.findIn K (.ref CHand) "between" = some (some (.ref CHand_between))) (li_Hand_between : K.lookup CHand_between = some ⟨ocMHand_between, odMHand_between, .func (PySem.W.fnOf "between" "Hand.between" (defArgs s_Hand_between) (defBody s_Hand_between) (defScope s_Hand_between) (.ref dTHand_between) kVMHand_between dcMHand_between pmMHand_between anMHand_between cdMHand_between ctMHand_between), slMHand_between⟩) (ci_Hand_between : PySem.W.codeIn K cdMHand_between "Hand.between" = true) (ki_Hand_between : PySem.W.keepIn K (.ref CHand_between) = true)
    {tkMHand_between0 : Tok}
    {ocDHand_between : Value} {odDHand_between : Option Addr} {nDHand_between : Nat} {slDHand_between : Array (Option Value)} (ti_Hand_between : K.lookup dTHand_between = some ⟨ocDHand_between, odDHand_between, .seq #[Value.str (PySem.Str.ofString "") tkMHand_between0, Value.none] nDHand_between, slDHand_between⟩)
    {CHand_clear : Addr} {odMHand_clear anMHand_clear : Option Addr} {slMHand_clear : Array (Option Value)} {ocMHand_clear kVMHand_clear dcMHand_clear pmMHand_clear cdMHand_clear ctMHand_clear : Value}
    (ai_Hand_clear : PySem.W.findIn K (.ref CHand) "clear" = some (some (.ref CHand_clear))) (li_Hand_clear : K.lookup CHand_clear = some ⟨ocMHand_clear, odMHand_clear, .func (PySem.W.fnOf "clear" "Hand.clear" (defArgs s_Hand_clear) (defBody s_Hand_clear) (defScope s_Hand_clear) .none kVMHand_clear dcMHand_clear pmMHand_clear anMHand_clear cdMHand_clear ctMHand_clear), slMHand_clear⟩) (ci_Hand_clear : PySem.W.codeIn K cdMHand_clear "Hand.clear" = true) (ki_Hand_clear : PySem.W.keepIn K (.ref CHand_clear) = true)
    (allc : (PySem.W.findIn K (.ref CHand) "kept", PySem.W.isFn K (.ref CHand_init), PySem.W.isFn K (.ref CHand_put), PySem.W.isFn K (.ref CHand_find), PySem.W.isFn K (.ref CHand_many), PySem.W.isFn K (.ref CHand_greatest), PySem.W.isFn K (.ref CHand_rows), PySem.W.isFn K (.ref CHand_between), PySem.W.isFn K (.ref CHand_clear), PySem.W.plainGet K CHand Str.empty, PySem.W.hasDictIn K CHand, PySem.W.plainOver K CHand, PySem.W.findIn K (.ref CHand) "__setattr__", PySem.W.makesIn K CHand, PySem.W.keepIn K (.ref CHand)) = (some none, true, true, true, true, true, true, true, true, true, true, true, some (some (.builtin "object.__setattr__")), true, true))
    : ∃ fd : FuncData, (∀ (s : Shared) (v : Value), BindsTo s fd ⟨[v], []⟩ [("_law_script", v)]) ∧ ∀ base : Heap, K.In base → base.Ns mainGlobals mg → FnOk l.prog w K mg base CX0 9 fa fd ["_law_script"] (spLaw K) := by
  simp only [Prod.mk.injEq] at allc
  obtain ⟨na1, fn_Hand_init, fn_Hand_put, fn_Hand_find, fn_Hand_many, fn_Hand_greatest, fn_Hand_rows, fn_Hand_between, fn_Hand_clear, pg_Hand, hd_Hand, po_Hand, sa_Hand, ma_Hand, kc_Hand⟩ := allc
  have e := hfa.symm.trans (PySem.W.mg_of X G a16)
  cases e
  have F1 := fun_mk (st := s_rank_of) l1 c1 k1
  have b1 := F1.binds (ps := ["entry"]) fun _ _ _ _ _ _ us hl => match us, hl with | [_], _ => rfl
  have F2 := fun_mk (st := s_in_order) l2 c2 k2
  have b2 := F2.binds (ps := ["entries"]) fun _ _ _ _ _ _ us hl => match us, hl with | [_], _ => rfl
  have F3 := fun_mk (st := s_stretch) l3 c3 k3
  have b3 := F3.binds (ps := ["entries", "low", "high"]) fun _ _ _ _ _ _ us hl => match us, hl with | [_, _, _], _ => rfl
  have F4 := fun_mk (st := s_newest) l4 c4 k4
  have b4 := F4.binds (ps := ["entries", "key", "stamp"]) fun _ _ _ _ _ _ us hl => match us, hl with | [_, _, _], _ => rfl
  have F5 := fun_mk (st := s__law_cell_at) l5 c5 k5
  have b5 := F5.binds (ps := ["_law_script", "_law_k"]) fun _ _ _ _ _ _ us hl => match us, hl with | [_, _], _ => rfl
  have F6 := fun_mk (st := s__law_stream) l6 c6 k6
  have b6 := F6.binds (ps := ["_law_cell", "_law_many"]) fun _ _ _ _ _ _ us hl => match us, hl with | [_, _], _ => rfl
  have F7 := fun_mk (st := s__law_sign) l7 c7 k7
  have b7 := F7.binds (ps := ["_law_number"]) fun _ _ _ _ _ _ us hl => match us, hl with | [_], _ => rfl
  have F8 := fun_mk (st := s__law_text) l8 c8 k8
  have b8 := F8.binds (ps := ["_law_number", "_law_least", "_law_most"]) fun _ _ _ _ _ _ us hl => match us, hl with | [_, _, _], _ => rfl
  have F9 := fun_mk (st := s__law_keys) l9 c9 k9
  have b9 := F9.binds (ps := ["_law_number", "_law_many"]) fun _ _ _ _ _ _ us hl => match us, hl with | [_, _], _ => rfl
  have F10 := fun_mk (st := s__law_row) l10 c10 k10
  have b10 := F10.binds (ps := ["_law_keys_here", "_law_number"]) fun _ _ _ _ _ _ us hl => match us, hl with | [_, _], _ => rfl
  have F11 := fun_mk (st := s__law_put) l11 c11 k11
  have b11 := F11.binds (ps := ["_law_rows", "_law_row_here"]) fun _ _ _ _ _ _ us hl => match us, hl with | [_, _], _ => rfl
  have F12 := fun_mk (st := s__law_ahead) l12 c12 k12
  have b12 := F12.binds (ps := ["_law_one", "_law_other"]) fun _ _ _ _ _ _ us hl => match us, hl with | [_, _], _ => rfl
  have F13 := fun_mk (st := s__law_in_order) l13 c13 k13
  have b13 := F13.binds (ps := ["_law_rows"]) fun _ _ _ _ _ _ us hl => match us, hl with | [_], _ => rfl
  have F14 := fun_mk (st := s__law_found) l14 c14 k14
  have b14 := F14.binds (ps := ["_law_rows", "_law_key", "_law_stamp"]) fun _ _ _ _ _ _ us hl => match us, hl with | [_, _, _], _ => rfl
  have F15 := fun_mk (st := s__law_asked) l15 c15 k15
  have b15 := F15.binds (ps := ["_law_hand", "_law_rows", "_law_keys_here", "_law_number", "_law_held"]) fun _ _ _ _ _ _ us hl => match us, hl with | [_, _, _, _, _], _ => rfl
  have F16 := fun_mk (st := s_law) l16 c16 k16
  have b16 := F16.binds (ps := ["_law_script"]) fun _ _ _ _ _ _ us hl => match us, hl with | [_], _ => rfl
  have FMHand_init : FunD K "__init__" "Hand.__init__" s_Hand_init .none CHand_init _ := ⟨⟨_, _, _, _, _, _, _, _, _, rfl, li_Hand_init, ci_Hand_init⟩, ki_Hand_init⟩
  have FMHand_put : FunD K "put" "Hand.put" s_Hand_put .none CHand_put _ := ⟨⟨_, _, _, _, _, _, _, _, _, rfl, li_Hand_put, ci_Hand_put⟩, ki_Hand_put⟩
  have FMHand_find : FunD K "find" "Hand.find" s_Hand_find .none CHand_find _ := ⟨⟨_, _, _, _, _, _, _, _, _, rfl, li_Hand_find, ci_Hand_find⟩, ki_Hand_find⟩
  have FMHand_many : FunD K "many" "Hand.many" s_Hand_many .none CHand_many _ := ⟨⟨_, _, _, _, _, _, _, _, _, rfl, li_Hand_many, ci_Hand_many⟩, ki_Hand_many⟩
  have FMHand_greatest : FunD K "greatest" "Hand.greatest" s_Hand_greatest .none CHand_greatest _ := ⟨⟨_, _, _, _, _, _, _, _, _, rfl, li_Hand_greatest, ci_Hand_greatest⟩, ki_Hand_greatest⟩
  have FMHand_rows : FunD K "rows" "Hand.rows" s_Hand_rows .none CHand_rows _ := ⟨⟨_, _, _, _, _, _, _, _, _, rfl, li_Hand_rows, ci_Hand_rows⟩, ki_Hand_rows⟩
  have FMHand_between : FunD K "between" "Hand.between" s_Hand_between (.ref dTHand_between) CHand_between _ := ⟨⟨_, _, _, _, _, _, _, _, _, rfl, li_Hand_between, ci_Hand_between⟩, ki_Hand_between⟩
  have FMHand_clear : FunD K "clear" "Hand.clear" s_Hand_clear .none CHand_clear _ := ⟨⟨_, _, _, _, _, _, _, _, _, rfl, li_Hand_clear, ci_Hand_clear⟩, ki_Hand_clear⟩
  have T : Txt K mg := { f_rank_of := ⟨_, _, F1, PySem.W.mg_of X G a1, b1⟩, f_in_order := ⟨_, _, F2, PySem.W.mg_of X G a2, b2⟩, f_stretch := ⟨_, _, F3, PySem.W.mg_of X G a3, b3⟩, f_newest := ⟨_, _, F4, PySem.W.mg_of X G a4, b4⟩, f__law_cell_at := ⟨_, _, F5, PySem.W.mg_of X G a5, b5⟩, f__law_stream := ⟨_, _, F6, PySem.W.mg_of X G a6, b6⟩, f__law_sign := ⟨_, _, F7, PySem.W.mg_of X G a7, b7⟩, f__law_text := ⟨_, _, F8, PySem.W.mg_of X G a8, b8⟩, f__law_keys := ⟨_, _, F9, PySem.W.mg_of X G a9, b9⟩, f__law_row := ⟨_, _, F10, PySem.W.mg_of X G a10, b10⟩, f__law_put := ⟨_, _, F11, PySem.W.mg_of X G a11, b11⟩, f__law_ahead := ⟨_, _, F12, PySem.W.mg_of X G a12, b12⟩, f__law_in_order := ⟨_, _, F13, PySem.W.mg_of X G a13, b13⟩, f__law_found := ⟨_, _, F14, PySem.W.mg_of X G a14, b14⟩, f__law_asked := ⟨_, _, F15, PySem.W.mg_of X G a15, b15⟩, b_enumerate := PySem.W.mg_none_of X G z0, b_isinstance := PySem.W.mg_none_of X G z1, b_len := PySem.W.mg_none_of X G z2, b_list := PySem.W.mg_none_of X G z3, b_max := PySem.W.mg_none_of X G z4, b_min := PySem.W.mg_none_of X G z5, b_range := PySem.W.mg_none_of X G z6, b_sorted := PySem.W.mg_none_of X G z7, b_sum := PySem.W.mg_none_of X G z8, cl := ⟨⟨CHand, CHand_init, CHand_put, CHand_find, CHand_many, CHand_greatest, CHand_rows, CHand_between, CHand_clear⟩, { i_Hand_init := ⟨_, _, FMHand_init, ⟨_, .nil, fun s us X hl => match us, binds_len (n := 1) hl rfl with | [_], _ => .of_eq rfl⟩⟩, mk_Hand := ⟨ma_Hand, ai_Hand_init, fn_Hand_init, kc_Hand⟩, i_Hand_put := ⟨_, _, FMHand_put, ⟨_, .nil, fun s us X hl => match us, binds_len (n := 4) hl rfl with | [_, _, _, _], _ => .of_eq rfl⟩⟩, me_Hand_put := ⟨ai_Hand_put, fn_Hand_put, ki_Hand_put⟩, i_Hand_find := ⟨_, _, FMHand_find, ⟨_, .nil, fun s us X hl => match us, binds_len (n := 3) hl rfl with | [_, _, _], _ => .of_eq rfl⟩⟩, me_Hand_find := ⟨ai_Hand_find, fn_Hand_find, ki_Hand_find⟩, i_Hand_many := ⟨_, _, FMHand_many, ⟨_, .nil, fun s us X hl => match us, binds_len (n := 1) hl rfl with | [_], _ => .of_eq rfl⟩⟩, me_Hand_many := ⟨ai_Hand_many, fn_Hand_many, ki_Hand_many⟩, i_Hand_greatest := ⟨_, _, FMHand_greatest, ⟨_, .nil, fun s us X hl => match us, binds_len (n := 1) hl rfl with | [_], _ => .of_eq rfl⟩⟩, me_Hand_greatest := ⟨ai_Hand_greatest, fn_Hand_greatest, ki_Hand_greatest⟩, i_Hand_rows := ⟨_, _, FMHand_rows, ⟨_, .nil, fun s us X hl => match us, binds_len (n := 1) hl rfl with | [_], _ => .of_eq rfl⟩⟩, me_Hand_rows := ⟨ai_Hand_rows, fn_Hand_rows, ki_Hand_rows⟩, i_Hand_between := ⟨_, _, FMHand_between, ⟨_, .nil, fun s us X hl => match us, binds_len (n := 3) hl rfl with | [_, _, _], _ => PySem.W.binds_K X rfl ti_Hand_between rfl rfl rfl⟩, ⟨_, (.cons rfl .nil), fun s us X hl => match us, binds_len (n := 2) hl rfl with | [_, _], _ => PySem.W.binds_K X rfl ti_Hand_between rfl rfl rfl⟩, ⟨_, (.cons ⟨_, rfl⟩ (.cons rfl .nil)), fun s us X hl => match us, binds_len (n := 1) hl rfl with | [_], _ => PySem.W.binds_K X rfl ti_Hand_between rfl rfl rfl⟩⟩, me_Hand_between := ⟨ai_Hand_between, fn_Hand_between, ki_Hand_between⟩, i_Hand_clear := ⟨_, _, FMHand_clear, ⟨_, .nil, fun s us X hl => match us, binds_len (n := 1) hl rfl with | [_], _ => .of_eq rfl⟩⟩, me_Hand_clear := ⟨ai_Hand_clear, fn_Hand_clear, ki_Hand_clear⟩, c_Hand := ⟨pg_Hand, hd_Hand, po_Hand, sa_Hand⟩, m_Hand := PySem.W.mg_of X G m_Hand, na1 := na1 }⟩ }
  exact ⟨_, fun s v => .of_eq rfl, fun base _ _ => ok_law T ⟨F16, PySem.W.mg_of X G a16, b16⟩⟩
theorem walk {l : PySem.W.OpenLaw} {q : Program} {loose : List Str} {XP : (Str → Option Value) → Heap → Prop} {YP : World → Heap → Prop} {d : DefRec} {K : Params → PySem.W.Frag} (hn : l.most = some 63) (hdf : d.params.defaults = [])
    (hY : ∀ (w : World) (h : Heap), YP w h → (K w.params).In h)
    (F : ∀ (w : World) (mg : Str → Option Value) (fa : Addr) (h : Heap), (K w.params).In h → h.Ns mainGlobals mg → mg d.name = some (.ref fa) →
      ∃ fd : FuncData, (∀ (s : Shared) (u : Value), BindsTo s fd ⟨[u], []⟩ [("_law_script", u)]) ∧ ∀ base : Heap, (K w.params).In base → base.Ns mainGlobals mg → FnOk l.prog w (K w.params) mg base CX0 9 fa fd ["_law_script"] (spLaw (K w.params))) :
    PySem.W.WalkO q loose XP YP l.row.toRowW d [] (fun f vs => PySem.call f vs) :=
  L2.walk_of (n := 63) (k := 9) (x := "_law_script") (CX := fun _ => CX0) (sp := fun w => spLaw (K w.params)) hn (by decide) hdf ⟨rfl, by decide, by decide⟩ hY F (fun _ _ a ns hl _ hS => ⟨a, ns, rfl, hS, hl, fun _ => rfl⟩) fun _ _ _ _ _ z => z
end T40
namespace PySem.W.Fast
def tw4508737771834964666 := ()
def tw17530055221026090348 := ()
def tw7879898945690619285 := ()
def tw18359024205886840479 := ()
def tw15134625689841140102 := ()
def tw861305202775414266 := ()
def tw7759605340009894367 := ()
def tw17358444823525771984 := ()
def tw10894654655678218511 := ()
def tw12782995674128428454 := ()
def tw17512709289686570048 := ()
def tw17499413095006784608 := ()
def tw3208488682133586120 := ()
def tw11200754497854293489 := ()
def tw7746027988808986114 := ()
def tw11473890429530999203 := ()
def tw589512869612469969 := ()
def tw960058658180797945 := ()
def tw2786655095397524067 := ()
def tw6168187552272113868 := ()
def tw7363601347534189046 := ()
def tw5667481472361511174 := ()
def tw1992003141088535901 := ()
def tw5151269114955056756 := ()
def tw4162500647371584973 := ()
def tw12011000839000014297 := ()
def tw17220864033611473642 := ()
def tw9958506500434086253 := ()
def tw13339919791991388428 := ()
def tw13463378843988556094 := ()
def tw228659935880420999 := ()
def tw17076009589413562462 := ()
def tw8977245840975567575 := ()
def tw18386053803486579972 := ()
def tw7411315878633153276 := ()
def tw15767073395142140499 := ()
def tw17757513178031394440 := ()
def tw16733927194602864879 := ()
def tw18294549621274780106 := ()
def tw3040287239266938299 := ()
def tw10332843033168888315 := ()
def tw3023307546021455229 := ()
def tw11154626808231646190 := ()
def tw8696136211414247770 := ()
def tw5076070628772561188 := ()
def tw11880783404498507821 := ()
def tw3936854935465334791 := ()
def tw8536206544508254943 := ()
def tw14024448008670219367 := ()
def tw13993709690818275621 := ()
def tw7875539821549513508 := ()
def tw10135414864137805250 := ()
def tw15433295456993272 := ()
end PySem.W.Fast
open PySem PySem.W PyProof.Rows
set_option maxRecDepth 100000 in
set_option maxHeartbeats 0 in
theorem PySem.Challenge.cw_tierstore_k40_hand_holds : PySem.Challenge.rw_tierstore_k40_hand.Holds := by
  w_on; o_law; k_head; (case hw => w_witness2)
  k_fill
  refine T40.walk (l := PySem.Challenge.rw_tierstore_k40_hand) rfl rfl (fun w h Y => PySem.W.kIn_of Y) ?F
  case F =>
    intro w mg fa h KX G hmg
    refine' T40.all_mk KX G hmg ?xa1 ?xl1 ?xc1 ?xk1 ?xa2 ?xl2 ?xc2 ?xk2 ?xa3 ?xl3 ?xc3 ?xk3 ?xa4 ?xl4 ?xc4 ?xk4 ?xa5 ?xl5 ?xc5 ?xk5 ?xa6 ?xl6 ?xc6 ?xk6 ?xa7 ?xl7 ?xc7 ?xk7 ?xa8 ?xl8 ?xc8 ?xk8 ?xa9 ?xl9 ?xc9 ?xk9 ?xa10 ?xl10 ?xc10 ?xk10 ?xa11 ?xl11 ?xc11 ?xk11 ?xa12 ?xl12 ?xc12 ?xk12 ?xa13 ?xl13 ?xc13 ?xk13 ?xa14 ?xl14 ?xc14 ?xk14 ?xa15 ?xl15 ?xc15 ?xk15 ?xa16 ?xl16 ?xc16 ?xk16 ?xz0 ?xz1 ?xz2 ?xz3 ?xz4 ?xz5 ?xz6 ?xz7 ?xz8 ?xm_Hand ?xai_Hand_init ?xli_Hand_init ?xci_Hand_init ?xki_Hand_init ?xai_Hand_put ?xli_Hand_put ?xci_Hand_put ?xki_Hand_put ?xai_Hand_find ?xli_Hand_find ?xci_Hand_find ?xki_Hand_find ?xai_Hand_many ?xli_Hand_many ?xci_Hand_many ?xki_Hand_many ?xai_Hand_greatest ?xli_Hand_greatest ?xci_Hand_greatest ?xki_Hand_greatest ?xai_Hand_rows ?xli_Hand_rows ?xci_Hand_rows ?xki_Hand_rows ?xai_Hand_between ?xli_Hand_between ?xci_Hand_between ?xki_Hand_between ?xti_Hand_between ?xai_Hand_clear ?xli_Hand_clear ?xci_Hand_clear ?xki_Hand_clear ?xallc
    (case xa1 => k_is); (case xl1 => k_is); (case xc1 => k_is); (case xk1 => k_is); (case xa2 => k_is); (case xl2 => k_is)
    (case xc2 => k_is); (case xk2 => k_is); (case xa3 => k_is); (case xl3 => k_is); (case xc3 => k_is); (case xk3 => k_is)
    (case xa4 => k_is); (case xl4 => k_is); (case xc4 => k_is); (case xk4 => k_is); (case xa5 => k_is); (case xl5 => k_is)
    (case xc5 => k_is); (case xk5 => k_is); (case xa6 => k_is); (case xl6 => k_is); (case xc6 => k_is); (case xk6 => k_is)
    (case xa7 => k_is); (case xl7 => k_is); (case xc7 => k_is); (case xk7 => k_is); (case xa8 => k_is); (case xl8 => k_is)
    (case xc8 => k_is); (case xk8 => k_is); (case xa9 => k_is); (case xl9 => k_is); (case xc9 => k_is); (case xk9 => k_is)
    (case xa10 => k_is); (case xl10 => k_is); (case xc10 => k_is); (case xk10 => k_is); (case xa11 => k_is); (case xl11 => k_is)
    (case xc11 => k_is); (case xk11 => k_is); (case xa12 => k_is); (case xl12 => k_is); (case xc12 => k_is); (case xk12 => k_is)
    (case xa13 => k_is); (case xl13 => k_is); (case xc13 => k_is); (case xk13 => k_is); (case xa14 => k_is); (case xl14 => k_is)
    (case xc14 => k_is); (case xk14 => k_is); (case xa15 => k_is); (case xl15 => k_is); (case xc15 => k_is); (case xk15 => k_is)
    (case xa16 => k_is); (case xl16 => k_is); (case xc16 => k_is); (case xk16 => k_is); (case xz0 => k_is); (case xz1 => k_is)
    (case xz2 => k_is); (case xz3 => k_is); (case xz4 => k_is); (case xz5 => k_is); (case xz6 => k_is); (case xz7 => k_is)
    (case xz8 => k_is); (case xm_Hand => k_is); (case xai_Hand_init => k_is); (case xli_Hand_init => k_is); (case xci_Hand_init => k_is); (case xki_Hand_init => k_is)
    (case xai_Hand_put => k_is); (case xli_Hand_put => k_is); (case xci_Hand_put => k_is); (case xki_Hand_put => k_is); (case xai_Hand_find => k_is); (case xli_Hand_find => k_is)
    (case xci_Hand_find => k_is); (case xki_Hand_find => k_is); (case xai_Hand_many => k_is); (case xli_Hand_many => k_is); (case xci_Hand_many => k_is); (case xki_Hand_many => k_is)
    (case xai_Hand_greatest => k_is); (case xli_Hand_greatest => k_is); (case xci_Hand_greatest => k_is); (case xki_Hand_greatest => k_is); (case xai_Hand_rows => k_is); (case xli_Hand_rows => k_is)
    (case xci_Hand_rows => k_is); (case xki_Hand_rows => k_is); (case xai_Hand_between => k_is); (case xli_Hand_between => k_is); (case xci_Hand_between => k_is); (case xki_Hand_between => k_is)
    (case xti_Hand_between => k_is); (case xai_Hand_clear => k_is); (case xli_Hand_clear => k_is); (case xci_Hand_clear => k_is); (case xki_Hand_clear => k_is); (case xallc => kernel_rfl)
