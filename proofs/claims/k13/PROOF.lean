import PyProof.Rows.All
import Wide.All
import OpenK.AllK
import Wide.FinOn
import Lean
import PyProof.EqAt
import PyProof.EqKinds
import PyProof.TupleCall
import PyProof.NeKinds
import PyProof.ListMulRoad
import PyProof.TupleOps
import PyProof.FactsAll.tuple_2
import PyProof.Rows.SeqMore
import KE.KRevSl
import KE.KRevIter
import KE.KIntText
import PyProof.Rows.RuleB_lshift
import PyProof.Rows.StrJoin2
import PyProof.Rows.StrNews2
import PyProof.Rows.FStr
import PyProof.Rows.StrFromFirst
import PyProof.Rows.StrLawsPart
import PyProof.Rows.RegReprOcc
import PyProof.Rows.SetFrom
import PyProof.AutoSeq1
import PyProof.SumAny
import PySem.Challenge.RW_tierstore_k13_whole_sieves
set_option Elab.async false
set_option linter.all false
set_option maxRecDepth 100000
namespace L2
open PySem PySem.Spec PyProof.Rows
abbrev Key := Sum Int Str
def keyIs : Key → Value → Bool
  | .inl k, v => Value.isInt k v
  | .inr x, v => Value.isStrOf x v
def keyH (w : World) : Key → Int
  | .inl k => hashInt k
  | .inr x => hashStr w x
theorem keyIs_shape : ∀ {k : Key} {v : Value}, keyIs k v = true → (∃ i t, k = Sum.inl i ∧ v = Value.int i t) ∨ (∃ x t, k = Sum.inr x ∧ v = Value.str x t)
  | .inl i, v, h => by
    obtain ⟨t, e⟩ := Value.isInt_shape (k := i) (v := v) h
    exact .inl ⟨i, t, rfl, e⟩
  | .inr x, v, h => by
    obtain ⟨t, e⟩ := Value.isStrOf_shape (x := x) (v := v) h
    exact .inr ⟨x, t, rfl, e⟩
theorem key_ll (a b : Int) : decide ((Sum.inl a : Key) = Sum.inl b) = (a == b) := by
  by_cases e : a = b
  · subst e; simp
  · have h : ¬ (Sum.inl a : Key) = Sum.inl b := fun q => e (Sum.inl.inj q)
    rw [decide_eq_false h]
    exact (beq_eq_false_iff_ne.mpr e).symm
theorem key_rr (a b : Str) : decide ((Sum.inr a : Key) = Sum.inr b) = decide (a = b) := by
  by_cases e : a = b
  · subst e; simp
  · have h : ¬ (Sum.inr a : Key) = Sum.inr b := fun q => e (Sum.inr.inj q)
    rw [decide_eq_false h, decide_eq_false e]
theorem key_lr (a : Int) (b : Str) : decide ((Sum.inl a : Key) = Sum.inr b) = false := decide_eq_false (fun q => nomatch q)
theorem key_rl (a : Str) (b : Int) : decide ((Sum.inr a : Key) = Sum.inl b) = false := decide_eq_false (fun q => nomatch q)
def mixKind (prog : Program) (w : World) : PySem.KeyKind prog w Key where
  is := keyIs
  hash := keyH w
  inj := fun v a b ha hb => by
    rcases keyIs_shape ha with ⟨i, t, rfl, rfl⟩ | ⟨x, t, rfl, rfl⟩
    · rcases keyIs_shape hb with ⟨j, u, rfl, e⟩ | ⟨y, u, rfl, e⟩
      · injection e with e1 _; rw [e1]
      · exact nomatch e
    · rcases keyIs_shape hb with ⟨j, u, rfl, e⟩ | ⟨y, u, rfl, e⟩
      · exact nomatch e
      · injection e with e1 _; rw [e1]
  byValue := fun k v h => by
    rcases keyIs_shape h with ⟨i, t, rfl, rfl⟩ | ⟨x, t, rfl, rfl⟩ <;> rfl
  pyHash := fun hv h => by
    rcases keyIs_shape hv with ⟨i, t, rfl, rfl⟩ | ⟨x, t, rfl, rfl⟩
    · exact wpAny_pyHash_int h
    · exact wpAny_pyHash_str h
  eqBool := fun hu hv h => by
    rcases keyIs_shape hu with ⟨i, t, rfl, rfl⟩ | ⟨x, t, rfl, rfl⟩
    · rcases keyIs_shape hv with ⟨j, u, rfl, rfl⟩ | ⟨y, u, rfl, rfl⟩
      · rw [key_ll] at h; exact wpAny_eqBool_int h
      · rw [key_lr] at h; exact SeqAt.EqAt.int_str i t y u _ _ _ _ h
    · rcases keyIs_shape hv with ⟨j, u, rfl, rfl⟩ | ⟨y, u, rfl, rfl⟩
      · rw [key_rl] at h; exact SeqAt.EqAt.str_int x t j u _ _ _ _ h
      · rw [key_rr] at h; exact wpAny_eqBool_str h
  «strs» := fun k x t v h => by
    rcases keyIs_shape h with ⟨i, u, rfl, e⟩ | ⟨y, u, rfl, e⟩
    · exact nomatch e
    · injection e with e1 _
      subst e1
      cases v <;> rfl
end L2
namespace L2
open PySem PySem.Spec PyProof.Rows
inductive V where
  | non | bl (b : Bool) | int (i : Int) | str (x : Str) | byt (b : Array UInt8) | flt (b : UInt64) | ref (a : Addr) | ty (n : String)
  deriving DecidableEq
def RelV : V → Value → Prop
  | .non, u => u = Value.none
  | .bl b, u => u = Value.bool b
  | .int i, u => ∃ t, u = Value.int i t
  | .str x, u => ∃ t, u = Value.str x t
  | .byt b, u => ∃ t, u = Value.bytes b t
  | .flt b, u => ∃ t, u = Value.float b t
  | .ref a, u => u = Value.ref a
  | .ty n, u => u = Value.type n
abbrev Vals : List V → List Value → Prop := Paired RelV
theorem Vals.length {xs : List V} {us : List Value} (r : Vals xs us) : xs.length = us.length := Paired.length r
theorem Vals.get : ∀ {xs : List V} {us : List Value} {i : Nat} {x : V}, Vals xs us → xs[i]? = some x → ∃ u, us[i]? = some u ∧ RelV x u
  | _, _, _, _, .nil, e => by simp at e
  | _, _, 0, _, .cons r _, e => by simp at e; subst e; exact ⟨_, rfl, r⟩
  | _, _, i + 1, x, .cons _ t, e => by
    obtain ⟨u, h1, h2⟩ := Vals.get (i := i) (x := x) t (by simpa using e)
    exact ⟨u, by simpa using h1, h2⟩
theorem Vals.set {x : V} {u : Value} (r : RelV x u) : ∀ {xs : List V} {us : List Value} (i : Nat), Vals xs us → Vals (xs.set i x) (us.set i u)
  | _, _, _, .nil => .nil
  | _, _, 0, .cons _ t => .cons r t
  | _, _, i + 1, .cons q t => .cons q (Vals.set r i t)
theorem Vals.append : ∀ {xs ys : List V} {us ws : List Value}, Vals xs us → Vals ys ws → Vals (xs ++ ys) (us ++ ws)
  | _, _, _, _, .nil, s => s
  | _, _, _, _, .cons r t, s => .cons r (Vals.append t s)
theorem Vals.take : ∀ {xs : List V} {us : List Value} (n : Nat), Vals xs us → Vals (xs.take n) (us.take n)
  | _, _, 0, _ => .nil
  | _, _, _ + 1, .nil => .nil
  | _, _, n + 1, .cons r t => .cons r (Vals.take n t)
theorem Vals.drop : ∀ {xs : List V} {us : List Value} (n : Nat), Vals xs us → Vals (xs.drop n) (us.drop n)
  | _, _, 0, r => r
  | _, _, _ + 1, .nil => .nil
  | _, _, n + 1, .cons _ t => Vals.drop n t
def RelO : Option V → Option Value → Prop
  | some v, some u => RelV v u
  | none, none => True
  | _, _ => False
def KV {κ : Type} : List (κ × V) → List (κ × Value) → Prop := Paired fun (p : κ × V) (q : κ × Value) => p.1 = q.1 ∧ RelV p.2 q.2
def kV : Key → V
  | .inl i => .int i
  | .inr x => .str x
inductive HO where
  | lst (xs : List V)
  | tup (xs : List V)
  | dK (kvs : List (Key × V)) | dT (kvs : List (List Key × V))
  | set (S : Int → Bool) (n : Nat)
  | ins (C dx : Addr) (fs : List (Str × V))
  | own (x : Addr)
  | xd (fs : List (Str × V))
  | met (f x : Addr)
  | rng (lo hi : Int)
  | frz (o : Obj) (u : HO)
  | tbl (ps : Array Value)
  | ext (φ : Heap → Prop)
abbrev Hp := Addr → Option HO
def upd (H : Hp) (a : Addr) (o : HO) : Hp := fun b => if b = a then some o else H b
theorem upd_same {H : Hp} {a : Addr} {o : HO} : upd H a o a = some o := by unfold upd; rw [if_pos rfl]
theorem upd_ne {H : Hp} {a b : Addr} {o : HO} (h : b ≠ a) : upd H a o b = H b := by unfold upd; rw [if_neg h]
theorem ne_of_none {H : Hp} {a b : Addr} {o : HO} (h : H a = some o) (h' : H b = none) : a ≠ b := by
  intro e; subst e; rw [h] at h'; cases h'
section
variable (P : Program) (w : World)
def ObjOk (H : Hp) (h : Heap) (a : Addr) : HO → Prop
  | .lst xs => xs.length ≤ sizeLine ∧ ∃ (its : List Value) (n : Nat), Vals xs its ∧ h.get? a = some { cls := .type "list", data := .seq its.toArray n }
  | .tup xs => xs.length ≤ sizeLine ∧ ∃ its : List Value, Vals xs its ∧ IsTup h a its.toArray
  | .dK kvs => kvs.length ≤ sizeLine ∧ (a == sysModules) = false ∧ ∃ vs, KV kvs vs ∧ h.DictOf (mixKind P w) a vs
  | .dT kvs => kvs.length ≤ sizeLine ∧ (a == sysModules) = false ∧ ∃ xs : List (List Key × Addr × Value),
      Paired (fun (p : List Key × V) (q : List Key × Addr × Value) => p.1 = q.1 ∧ H q.2.1 = some (.tup (p.1.map kV)) ∧ RelV p.2 q.2.2) kvs xs ∧
      ∃ o es ep, h.get? a = some o ∧ o.ExactDict ∧ o.data = .dict es ep ∧ es.toList = xs.map (entryOfKey (tupleKind (mixKind P w))) ∧ (xs.map (·.1)).Nodup
  | .set S n => h.SetOf (intKind P w) a S n
  | .ins C dx fs => H dx = some (.own a) ∧ fs.length ≤ 1000 ∧ dx ≠ a ∧ h.get? a = some (PySem.W.instObj C dx) ∧
      ∃ mA, h.Ns1 dx mA ∧ (∀ f, RelO (fs.lookup f) (mA f)) ∧ PySem.Within mA (fs.map (·.1))
  | .own _ => ∃ o, h.get? a = some o
  | .xd fs => ∃ mA, h.Ns1 a mA ∧ ∀ f, RelO (fs.lookup f) (mA f)
  | .rng lo hi => ∃ t u v, h.get? a = some { cls := .type "range", data := .fields #[.int lo t, .int hi u, .int 1 v] }
  | .frz o u => h.get? a = some o ∧ ObjOk H h a u
  | .tbl ps => h.get? a = some { cls := .none, data := .fields ps }
  | .met f x => h.get? a = some (PySem.W.methodObj (.ref f) (.ref x))
  | .ext φ => φ h ∧ (∃ o, h.get? a = some o) ∧ ∀ h1 h2 : Heap, φ h1 → (∀ o, h1.get? a = some o → h2.get? a = some o) → φ h2
def HOk (H : Hp) (h : Heap) : Prop := ∀ a o, H a = some o → ObjOk P w H h a o
end
section
variable {P : Program} {w : World} {H H' : Hp} {h h' : Heap} {a : Addr} {o : HO}
theorem ObjOk.lt (x : ObjOk P w H h a o) : a < h.objs.size := by
  cases o with
  | lst xs => obtain ⟨_, _, _, _, e⟩ := x; exact Heap.lt_size e
  | tup xs => obtain ⟨_, _, _, p⟩ := x; exact p.lt
  | dK kvs => obtain ⟨_, _, _, _, o, _, _, e, _⟩ := x; exact Heap.lt_size e
  | dT kvs => obtain ⟨_, _, _, _, o, _, _, e, _⟩ := x; exact Heap.lt_size e
  | set S n => obtain ⟨o, _, _, _, e, _⟩ := x; exact Heap.lt_size e
  | ins C dx fs => obtain ⟨_, _, _, e, _⟩ := x; exact Heap.lt_size e
  | own y => obtain ⟨_, e⟩ := x; exact Heap.lt_size e
  | xd fs => obtain ⟨_, ⟨_, _, _, e, _⟩, _⟩ := x; exact Heap.lt_size e
  | rng lo hi => obtain ⟨_, _, _, e⟩ := x; exact Heap.lt_size e
  | frz ob u => obtain ⟨e, _⟩ := x; exact Heap.lt_size e
  | tbl ps => exact Heap.lt_size (show h.get? a = some _ from x)
  | met f y => exact Heap.lt_size (show h.get? a = some _ from x)
  | ext φ => obtain ⟨_, ⟨_, e⟩, _⟩ := x; exact Heap.lt_size e
theorem Paired.mapP {α β : Type} {F G : α → β → Prop} : ∀ {l₁ : List α} {l₂ : List β}, Paired F l₁ l₂ → (∀ a b, F a b → G a b) → Paired G l₁ l₂
  | _, _, .nil, _ => .nil
  | _, _, .cons r t, f => .cons (f _ _ r) (Paired.mapP t f)
theorem ObjOk.stay (x : ObjOk P w H h a o) (k : ∀ b u, (b = a ∨ H b = some (.own a)) → h.get? b = some u → h'.get? b = some u)
    (ho : ∀ b, H b = some (.own a) → H' b = some (.own a)) (ht : ∀ b xs, H b = some (.tup xs) → H' b = some (.tup xs)) : ObjOk P w H' h' a o := by
  induction o with
  | lst xs => obtain ⟨z, its, n, r, e⟩ := x; exact ⟨z, its, n, r, k _ _ (.inl rfl) e⟩
  | tup xs => obtain ⟨z, its, r, ob, e, c⟩ := x; exact ⟨z, its, r, ob, k _ _ (.inl rfl) e, c⟩
  | dK kvs => obtain ⟨z, y, vs, r, ob, es, ep, e, c⟩ := x; exact ⟨z, y, vs, r, ob, es, ep, k _ _ (.inl rfl) e, c⟩
  | dT kvs =>
    obtain ⟨z, y, xs, r, ob, es, ep, e, c⟩ := x
    exact ⟨z, y, xs, Paired.mapP r fun p q z => ⟨z.1, ht _ _ z.2.1, z.2.2⟩, ob, es, ep, k _ _ (.inl rfl) e, c⟩
  | set S n => obtain ⟨ob, es, ep, t, e, c⟩ := x; exact ⟨ob, es, ep, t, k _ _ (.inl rfl) e, c⟩
  | ins C dx fs =>
    obtain ⟨d, z, ne, e, mA, ⟨od, es, ep, e2, c⟩, r⟩ := x
    exact ⟨ho _ d, z, ne, k _ _ (.inl rfl) e, mA, ⟨od, es, ep, k _ _ (.inr d) e2, c⟩, r⟩
  | own y => obtain ⟨ob, e⟩ := x; exact ⟨ob, k _ _ (.inl rfl) e⟩
  | xd fs => obtain ⟨mA, ⟨od, es, ep, e, c⟩, r⟩ := x; exact ⟨mA, ⟨od, es, ep, k _ _ (.inl rfl) e, c⟩, r⟩
  | rng lo hi => obtain ⟨t, u, v, e⟩ := x; exact ⟨t, u, v, k _ _ (.inl rfl) e⟩
  | frz ob u ih => obtain ⟨e, q⟩ := x; exact ⟨k _ _ (.inl rfl) e, ih q⟩
  | tbl ps =>
    have e : h.get? a = some { cls := .none, data := .fields ps } := x
    show h'.get? a = some { cls := .none, data := .fields ps }
    exact k a _ (.inl rfl) e
  | met f y =>
    have e : h.get? a = some (PySem.W.methodObj (.ref f) (.ref y)) := x
    show h'.get? a = some (PySem.W.methodObj (.ref f) (.ref y))
    exact k a _ (.inl rfl) e
  | ext φ => obtain ⟨p, ⟨o, e⟩, st⟩ := x; exact ⟨st _ _ p fun o q => k _ _ (.inl rfl) q, ⟨o, k _ _ (.inl rfl) e⟩, st⟩
theorem HOk.lt (x : HOk P w H h) (e : H a = some o) : a < h.objs.size := (x a o e).lt
theorem HOk.fresh (x : HOk P w H h) (e : h.objs.size ≤ a) : H a = none := by
  cases q : H a with
  | none => rfl
  | some u => exact absurd (Nat.lt_of_lt_of_le (x.lt q) e) (Nat.lt_irrefl _)
theorem HOk.kept (x : HOk P w H h) (k : ∀ b u, h.get? b = some u → h'.get? b = some u) : HOk P w H h' := fun a o e =>
  (x a o e).stay (fun b u _ q => k b u q) (fun _ q => q) fun _ _ q => q
theorem HOk.laid (x : HOk P w H h) (k : ∀ b u, h.get? b = some u → h'.get? b = some u) (hp : h.objs.size ≤ a) (new : ObjOk P w (upd H a o) h' a o) : HOk P w (upd H a o) h' := fun b u e => by
  have hn := x.fresh hp
  by_cases hb : b = a
  · subst hb; rw [upd_same] at e; cases e; exact new
  · rw [upd_ne hb] at e
    exact (x b u e).stay (fun c v _ q => k c v q) (fun c q => by rw [upd_ne (ne_of_none q hn)]; exact q) fun c xs q => by rw [upd_ne (ne_of_none q hn)]; exact q
end
def Rd (H : Hp) (a : Addr) (u : HO) : Prop := H a = some u ∨ ∃ o, H a = some (.frz o u)
theorem Rd.of {H : Hp} {a : Addr} {u : HO} (h : H a = some u) : Rd H a u := .inl h
theorem Rd.ok {P : Program} {w : World} {H : Hp} {h : Heap} {a : Addr} {u : HO} (r : Rd H a u) (x : HOk P w H h) : ObjOk P w H h a u := by
  rcases r with r | ⟨o, r⟩
  · exact x a u r
  · obtain ⟨_, q⟩ := x a _ r
    exact q
def Mut : Option HO → Prop
  | some (.lst _) => True
  | some (.dK _) => True
  | some (.dT _) => True
  | some (.set _ _) => True
  | some (.ins _ _ _) => True
  | some (.ext _) => True
  | _ => False
section
variable {P : Program} {w : World} {H : Hp} {h h' : Heap} {x e : Addr} {o' : HO}
theorem HOk.write (ok : HOk P w H h) (mu : Mut (H x)) (he : e = x ∨ H e = some (.own x)) (k : ∀ b u, b ≠ e → h.get? b = some u → h'.get? b = some u) (heo : ∃ u, h'.get? e = some u)
    (new : ObjOk P w (upd H x o') h' x o') : HOk P w (upd H x o') h' := fun b u q => by
  have nown : ∀ c y, H c = some (.own y) → c ≠ x := fun c y r z => by subst z; rw [r] at mu; exact mu
  have ntup : ∀ c xs, H c = some (.tup xs) → c ≠ x := fun c xs r z => by subst z; rw [r] at mu; exact mu
  by_cases hb : b = x
  · subst hb; rw [upd_same] at q; cases q; exact new
  · rw [upd_ne hb] at q
    by_cases hbe : b = e
    · have q' : H b = some (.own x) := by
        rcases he with z | z
        · exact absurd (hbe.trans z) hb
        · rw [hbe]; exact z
      rw [q] at q'; cases q'
      obtain ⟨v, hv⟩ := heo
      exact ⟨v, by rw [hbe]; exact hv⟩
    · refine (ok b u q).stay (fun c v hc r => k c v ?_ r) (fun c r => by rw [upd_ne (nown c b r)]; exact r) fun c xs r => by rw [upd_ne (ntup c xs r)]; exact r
      rcases hc with rfl | hc
      · exact hbe
      · rintro rfl
        rcases he with z | z
        · exact nown c b hc z
        · rw [hc] at z; cases z; exact hb rfl
end
structure Un (fs ex : List Addr) (H H' : Hp) (h h' : Heap) : Prop where
  keep : ∀ b o, h.get? b = some o → H b = none → b ∉ fs → b ∉ ex → h'.get? b = some o
  slot : ∀ b o, h.get? b = some o → H b = none → b ∈ fs → b ∉ ex → ∃ sl, h'.get? b = some { o with slots := sl }
  free : ∀ b o, h.get? b = some o → H b = none → b ∉ ex → H' b = none
  there : ∀ b o, h.get? b = some o → b ∉ ex → ∃ o', h'.get? b = some o'
  tups : ∀ b xs, H b = some (.tup xs) → H' b = some (.tup xs)
  frzs : ∀ b o u, H b = some (.frz o u) → H' b = some (.frz o u)
  tbls : ∀ b ps, H b = some (.tbl ps) → ∃ more, H' b = some (.tbl (ps ++ more))
section
variable {fs fs' ex ex' : List Addr} {H H1 H2 : Hp} {h h1 h2 h' : Heap} {a x e : Addr} {o : HO}
theorem Un.any (u : Un fs ex H H1 h h1) {b : Addr} {ob : Obj} (q : h.get? b = some ob) (n : H b = none) (hx : b ∉ ex) : ∃ sl, h1.get? b = some { ob with slots := sl } := by
  by_cases hb : b ∈ fs
  · exact u.slot b ob q n hb hx
  · exact ⟨ob.slots, u.keep b ob q n hb hx⟩
theorem Un.trans (a : Un fs ex H H1 h h1) (b : Un fs ex H1 H2 h1 h2) : Un fs ex H H2 h h2 where
  keep := fun c ob q n hc hx => b.keep c ob (a.keep c ob q n hc hx) (a.free c ob q n hx) hc hx
  slot := fun c ob q n hc hx => by
    obtain ⟨sl, e1⟩ := a.slot c ob q n hc hx
    obtain ⟨sl', e2⟩ := b.slot c _ e1 (a.free c ob q n hx) hc hx
    exact ⟨sl', e2⟩
  free := fun c ob q n hx => by
    obtain ⟨o', e1⟩ := a.there c ob q hx
    exact b.free c o' e1 (a.free c ob q n hx) hx
  there := fun c ob q hx => by
    obtain ⟨o', e1⟩ := a.there c ob q hx
    exact b.there c o' e1 hx
  tups := fun c xs q => b.tups c xs (a.tups c xs q)
  frzs := fun c ob xs q => b.frzs c ob xs (a.frzs c ob xs q)
  tbls := fun c ps q => by
    obtain ⟨m1, e1⟩ := a.tbls c ps q
    obtain ⟨m2, e2⟩ := b.tbls c _ e1
    exact ⟨m1 ++ m2, by rw [e2, Array.append_assoc]⟩
theorem Un.kept (k : ∀ b u, h.get? b = some u → h'.get? b = some u) : Un fs ex H H h h' :=
  ⟨fun b ob q _ _ _ => k b ob q, fun b ob q _ _ _ => ⟨ob.slots, k b ob q⟩, fun _ _ _ n _ => n, fun b ob q _ => ⟨ob, k b ob q⟩, fun _ _ q => q, fun _ _ _ q => q, fun _ ps q => ⟨#[], by rw [q]; simp⟩⟩
theorem Un.refl : Un fs ex H H h h := Un.kept fun _ _ q => q
theorem Un.laid (k : ∀ b u, h.get? b = some u → h'.get? b = some u) (hp : h.objs.size ≤ a) (hn : H a = none) : Un fs ex H (upd H a o) h h' where
  keep := fun b u q _ _ _ => k b u q
  slot := fun b u q _ _ _ => ⟨u.slots, k b u q⟩
  free := fun b u q n _ => by rw [upd_ne (Nat.ne_of_lt (Nat.lt_of_lt_of_le (Heap.lt_size q) hp))]; exact n
  there := fun b u q _ => ⟨u, k b u q⟩
  tups := fun b xs q => by rw [upd_ne (ne_of_none q hn)]; exact q
  frzs := fun b u xs q => by rw [upd_ne (ne_of_none q hn)]; exact q
  tbls := fun b ps q => ⟨#[], by rw [upd_ne (ne_of_none q hn), q]; simp⟩
theorem Un.write (mu : Mut (H x)) (he : e = x ∨ H e = some (.own x)) (k : ∀ b u, b ≠ e → h.get? b = some u → h'.get? b = some u) (heo : ∃ u, h'.get? e = some u) : Un fs ex H (upd H x o) h h' := by
  have hx : ∀ b, H b = none → b ≠ x := fun b n z => by subst z; rw [n] at mu; exact mu
  have hb : ∀ b, H b = none → b ≠ e := fun b n z => by
    subst z
    rcases he with r | r
    · exact hx b n r
    · rw [n] at r; cases r
  have hm : ∀ b u, H b = some u → ¬ Mut (some u) → b ≠ x := fun b u q nm z => by subst z; rw [q] at mu; exact nm mu
  refine ⟨fun b u q n _ _ => k b u (hb b n) q, fun b u q n _ _ => ⟨u.slots, k b u (hb b n) q⟩, fun b u q n _ => by rw [upd_ne (hx b n)]; exact n, fun b u q _ => ?_,
    fun b xs q => by rw [upd_ne (hm b _ q fun z => z)]; exact q, fun b u xs q => by rw [upd_ne (hm b _ q fun z => z)]; exact q, fun b ps q => ⟨#[], by rw [upd_ne (hm b _ q fun z => z), q]; simp⟩⟩
  by_cases hbe : b = e
  · subst hbe; exact heo
  · exact ⟨u, k b u hbe q⟩
theorem Un.mono (u : Un fs ex H H1 h h1) (hs : ∀ b ∈ fs, b ∈ fs') (hx : ∀ b ∈ ex, b ∈ ex') : Un fs' ex' H H1 h h1 :=
  ⟨fun b ob q n hb he => u.keep b ob q n (fun z => hb (hs b z)) fun z => he (hx b z), fun _ _ q n _ he => u.any q n fun z => he (hx _ z), fun b ob q n he => u.free b ob q n fun z => he (hx b z), fun b ob q he => u.there b ob q fun z => he (hx b z), u.tups, u.frzs, u.tbls⟩
end
def trk (h : Heap) (H : Hp) : List Addr := (List.range h.objs.size).filter fun a => (H a).isSome
def hidT (h : Heap) (H : Hp) : Heap := PySem.W.hideAll h (trk h H)
theorem hidT_size (h : Heap) (H : Hp) : (hidT h H).objs.size = h.objs.size := PySem.W.hideAll_size _ _
theorem hidT_get {h : Heap} {H : Hp} {b : Addr} {o : Obj} (e : h.get? b = some o) (n : H b = none) : (hidT h H).get? b = some o :=
  PySem.W.hideAll_get _ e fun hm => by
    have q : (H b).isSome = true := (List.mem_filter.mp hm).2
    rw [n] at q; simp at q
theorem of_hidT {h : Heap} {H : Hp} {b : Addr} {o : Obj} (e : (hidT h H).get? b = some o) : h.get? b = some o ∧ H b = none := by
  have e' : h.get? b = some o := PySem.W.of_hideAll (trk h H) e
  refine ⟨e', ?_⟩
  cases q : H b with
  | none => rfl
  | some x =>
    have hm : b ∈ trk h H := List.mem_filter.mpr ⟨List.mem_range.mpr (Heap.lt_size e'), by simp [q]⟩
    have z : (hidT h H).get? b = none := PySem.W.hideAll_none (trk h H) hm
    rw [z] at e; cases e
def allNews (g h : Heap) (L : Addr) : List (Addr × Obj) := (List.range h.objs.size).filterMap fun a => if a = L ∨ (g.get? a).isSome = true then none else (h.get? a).map fun o => (a, o)
def rest (g h : Heap) (L d : Addr) : List (Addr × Obj) := (allNews g h L).filter fun p => decide (p.1 ≠ d)
end L2
namespace L2
open PySem PySem.Spec PyProof.Rows
structure Mod (K : PySem.W.Frag) (mg : Str → Option Value) (base : Heap) : Prop where
  kin : K.In base
  glob : base.Ns mainGlobals mg
  blt : ∃ mb, base.Ns builtinsNs mb ∧ ∀ x : Str, x ≠ "__name__" → mb x = bootBuiltins x
  nolimit : base.NoLimit
structure Cx where
  prog : Program
  w : World
  K : PySem.W.Frag
  mg : Str → Option Value
  base : Heap
  A : Around
  N : List Str
  s₀ : Shared
  H₀ : Hp
  env : Env
  outer : List Env
  stack : List Env
  ex : List Addr
  fn : Str → Bool
  calm : Bool
  pn : List (Addr × Obj)
  xe : Value → Shared → Prop
def frs (l : List Env) : List Addr := l.filterMap (·.frame)
abbrev Cx.fs (X : Cx) : List Addr := frs X.outer
def Vis (sc : Scope) (x : Str) : Prop := sc.names.lookup x = some .local ∨ sc.names.lookup x = some .cell ∨ sc.names.lookup x = some .free
def Loc (sc : Scope) (x : Str) : Prop := sc.names.lookup x = some .local ∨ sc.names.lookup x = some .cell
def Look (env : Env) (h : Heap) (m : Str → Option Value) (x : Str) (u : Value) : Prop :=
  (env.kindOf x = some .local ∧ m x = some u) ∨ ((env.kindOf x = some .cell ∨ env.kindOf x = some .free) ∧ ∃ c, env.cells.lookup x = some c ∧ h.IsCell c (some u))
structure Cx.Ok (X : Cx) : Prop where
  mod : Mod X.K X.mg X.base
  kind : X.env.scope.kind = .function
  glob : X.env.globals = mainGlobals
  blt : X.env.builtins = builtinsNs
  above : X.s₀.heap.objs.size ≤ X.env.locals
  inj : ∀ x y c, X.env.cells.lookup x = some c → X.env.cells.lookup y = some c → x = y
  has : ∀ x, (X.env.kindOf x = some .cell ∨ X.env.kindOf x = some .free) → ∃ c, X.env.cells.lookup x = some c
  cab : ∀ x c, X.fn x = true → X.env.cells.lookup x = some c → X.s₀.heap.objs.size ≤ c
  hd : X.calm = true → X.A.handled = none
  frames : X.A.frames = some X.stack
  stk : X.stack = X.outer ∨ (X.stack = X.env :: X.outer ∧ X.env.frame = some X.env.locals)
  exf : ∀ b ∈ X.ex, b ≠ X.env.locals ∧ ∀ x c, X.env.cells.lookup x = some c → c ≠ b
  bs : ∀ b o, X.base.get? b = some o → X.s₀.heap.get? b = some o ∧ X.H₀ b = none
  bsz : X.base.objs.size ≤ X.s₀.heap.objs.size
  noex : ∀ b o, X.base.get? b = some o → b ∉ X.ex
  exfs : ∀ b ∈ X.ex, b ∉ X.fs
  funs : X.s₀.heap.FunFrames X.base X.outer
  frf : ∀ b ∈ X.fs, X.H₀ b = none
structure Inv (X : Cx) (pins : List (Addr × Obj)) (σ : List (Option V)) (H : Hp) (s : Shared) : Prop where
  ok : X.Ok
  os : s.os = X.s₀.os
  bare : AllBare s.gens
  base : Un X.fs X.ex X.H₀ H X.s₀.heap s.heap
  loc : ∃ m, s.heap.Ns X.env.locals m ∧ ∀ (i : Nat) (x : Str) (v : V), X.N[i]? = some x → σ[i]? = some (some v) → Vis X.env.scope x → ∃ u, RelV v u ∧ Look X.env s.heap m x u
  cell : ∀ x c, X.env.cells.lookup x = some c → ∃ v, s.heap.IsCell c v
  free : H X.env.locals = none
  freeC : ∀ x c, X.env.cells.lookup x = some c → H c = none
  pin : ∀ p ∈ X.pn ++ pins, s.heap.get? p.1 = some p.2 ∧ H p.1 = none ∧ p.1 ≠ X.env.locals ∧ p.1 ∉ X.fs ∧ ∀ v, p.2.data ≠ .cell v
  hok : HOk X.prog X.w H s.heap
  len : σ.length = X.N.length
section
variable {X : Cx} {pins : List (Addr × Obj)} {σ : List (Option V)} {H H' : Hp} {s : Shared} {h' : Heap}
theorem Cx.Ok.nofr (ok : X.Ok) {b : Addr} {o : Obj} (e : X.base.get? b = some o) : b ∉ X.fs := fun hb => by
  have := (ok.funs.mem hb).1
  rw [e] at this; cases this
theorem Inv.bs (I : Inv X pins σ H s) : ∀ b o, X.base.get? b = some o → s.heap.get? b = some o ∧ H b = none := fun b o e =>
  ⟨I.base.keep b o (I.ok.bs b o e).1 (I.ok.bs b o e).2 (I.ok.nofr e) (I.ok.noex b o e), I.base.free b o (I.ok.bs b o e).1 (I.ok.bs b o e).2 (I.ok.noex b o e)⟩
theorem Inv.bk (I : Inv X pins σ H s) : ∀ b o, X.base.get? b = some o → s.heap.get? b = some o := fun b o e => (I.bs b o e).1
theorem Inv.mod (I : Inv X pins σ H s) : Mod X.K X.mg X.base := I.ok.mod
theorem Inv.kIn (I : Inv X pins σ H s) : X.K.In s.heap := I.ok.mod.kin.keeps I.bk
theorem Inv.nolimit (I : Inv X pins σ H s) : s.heap.NoLimit := I.ok.mod.nolimit.keeps I.bk
theorem Inv.fr (I : Inv X pins σ H s) : ∃ m, Fr X.base X.env.locals s.heap m :=
  let ⟨m, hn, _⟩ := I.loc
  ⟨m, hn, I.bk, Nat.le_trans I.ok.bsz I.ok.above⟩
theorem Inv.lt (I : Inv X pins σ H s) : X.env.locals < s.heap.objs.size := let ⟨_, hn, _⟩ := I.loc; hn.lt
theorem Inv.sz (I : Inv X pins σ H s) : X.s₀.heap.objs.size ≤ s.heap.objs.size := Nat.le_trans I.ok.above (Nat.le_of_lt I.lt)
theorem Inv.nofs (I : Inv X pins σ H s) {a : Addr} (h : s.heap.objs.size ≤ a) : a ∉ X.fs := fun hb => by
  obtain ⟨_, o, ho, _⟩ := I.ok.funs.mem hb
  exact absurd (Nat.lt_of_lt_of_le (Heap.lt_size ho) (Nat.le_trans I.sz h)) (Nat.lt_irrefl _)
theorem Inv.cne (I : Inv X pins σ H s) : ∀ x c, X.env.cells.lookup x = some c → c ≠ X.env.locals := fun x c e z => by
  obtain ⟨v, o, ho, hd⟩ := I.cell x c e
  obtain ⟨m, ⟨o', es, ep, ho', hd', _⟩, _⟩ := I.loc
  rw [z, ho'] at ho; cases ho; rw [hd'] at hd; cases hd
theorem Inv.funs (I : Inv X pins σ H s) : s.heap.FunFrames X.base X.outer := by
  have all : ∀ (l : List Env), (∀ b ∈ frs l, b ∈ X.fs) → X.s₀.heap.FunFrames X.base l → s.heap.FunFrames X.base l := by
    intro l
    induction l with
    | nil => intro _ _; trivial
    | cons env r ih =>
      intro hs hl
      obtain ⟨hk, ⟨L, o, hf, hn, ho, hd⟩, hr⟩ := hl
      have hL : L ∈ X.fs := hs L (by unfold frs; rw [List.filterMap_cons, hf]; exact List.mem_cons_self)
      obtain ⟨sl, e⟩ := I.base.slot L o ho (I.ok.frf L hL) hL fun z => I.ok.exfs L z hL
      exact ⟨hk, ⟨L, _, hf, hn, e, hd⟩, ih (fun b hb => hs b (by unfold frs; rw [List.filterMap_cons, hf]; exact List.mem_cons_of_mem _ hb)) hr⟩
  exact all X.outer (fun _ hb => hb) I.ok.funs
theorem Inv.stack (I : Inv X pins σ H s) : s.heap.FunFrames X.base X.stack := by
  rcases I.ok.stk with e | ⟨e, hf⟩
  · rw [e]; exact I.funs
  · rw [e]
    obtain ⟨m, hn, _⟩ := I.loc
    refine .cons (by rw [I.ok.kind]; decide) hf hn ?_ I.funs
    exact Heap.get?_none_of_le (Nat.le_trans I.ok.bsz I.ok.above)
theorem Inv.stkSub (I : Inv X pins σ H s) : ∀ b ∈ frs X.stack, b ∈ X.env.locals :: X.fs := fun b hb => by
  rcases I.ok.stk with e | ⟨e, hf⟩
  · rw [e] at hb; exact List.mem_cons_of_mem _ hb
  · rw [e] at hb
    unfold frs at hb
    rw [List.filterMap_cons, hf] at hb
    exact hb
theorem Inv.stkFree (I : Inv X pins σ H s) : ∀ b ∈ frs X.stack, H b = none := fun b hb => by
  rcases List.mem_cons.mp (I.stkSub b hb) with e | hb
  · rw [e]; exact I.free
  · obtain ⟨_, o, ho, _⟩ := I.ok.funs.mem hb
    exact I.base.free b o ho (I.ok.frf b hb) fun z => I.ok.exfs b z hb
theorem Inv.step {g' : Array GenState} {t' : Nat} {d' : Drawn} {ch : List Addr} (I : Inv X pins σ H s)
    (hch : ∀ b ∈ ch, (b ∈ X.ex ∨ X.s₀.heap.objs.size ≤ b) ∧ b ≠ X.env.locals ∧ (∀ x c, X.env.cells.lookup x = some c → c ≠ b) ∧ ∀ p ∈ X.pn ++ pins, p.1 ≠ b)
    (keep : ∀ b o, b ≠ X.env.locals → b ∉ X.fs → b ∉ ch → s.heap.get? b = some o → H b = none → h'.get? b = some o)
    (slot : ∀ b o, b ≠ X.env.locals → b ∈ X.fs → b ∉ ch → s.heap.get? b = some o → H b = none → ∃ sl, h'.get? b = some { o with slots := sl }) (free : ∀ b o, b ∉ ch → s.heap.get? b = some o → H b = none → H' b = none)
    (there : ∀ b o, b ∉ ch → s.heap.get? b = some o → ∃ o', h'.get? b = some o')
    (tups : ∀ b xs, H b = some (.tup xs) → H' b = some (.tup xs)) (frzs : ∀ b o u, H b = some (.frz o u) → H' b = some (.frz o u)) (tbls : ∀ b ps, H b = some (.tbl ps) → ∃ more, H' b = some (.tbl (ps ++ more)))
    (ns : ∀ m, s.heap.Ns X.env.locals m → h'.Ns X.env.locals m) (hok : HOk X.prog X.w H' h') (hg : AllBare g') :
    Inv X pins σ H' { s with heap := h', gens := g', drawn := d', toks := t' } := by
  have neL : ∀ b o, X.s₀.heap.get? b = some o → b ≠ X.env.locals := fun b o e => Nat.ne_of_lt (Nat.lt_of_lt_of_le (Heap.lt_size e) I.ok.above)
  have neC : ∀ b o, X.s₀.heap.get? b = some o → b ∉ X.ex → b ∉ ch := fun b o e hx hb => by
    rcases (hch b hb).1 with z | z
    · exact hx z
    · exact absurd (Nat.lt_of_lt_of_le (Heap.lt_size e) z) (Nat.lt_irrefl _)
  have cellK : ∀ x c, X.env.cells.lookup x = some c → ∀ v, s.heap.IsCell c v → h'.IsCell c v := fun x c e v ⟨o, ho, hd⟩ => by
    have nch : c ∉ ch := fun z => (hch c z).2.2.1 x c e rfl
    by_cases hc : c ∈ X.fs
    · obtain ⟨sl, q⟩ := slot c o (I.cne x c e) hc nch ho (I.freeC x c e)
      exact ⟨_, q, hd⟩
    · exact ⟨o, keep c o (I.cne x c e) hc nch ho (I.freeC x c e), hd⟩
  refine ⟨I.ok, I.os, hg, ⟨fun b o e n hb hx => ?_, fun b o e n hb hx => ?_, fun b o e n hx => ?_, fun b o e hx => ?_, fun b xs e => tups b xs (I.base.tups b xs e), fun b o xs e => frzs b o xs (I.base.frzs b o xs e), fun b ps e => ?_⟩, ?_, fun x c e => ?_, ?_, fun x c e => ?_, fun p hp => ?_, hok, I.len⟩
  · exact keep b o (neL b o e) hb (neC b o e hx) (I.base.keep b o e n hb hx) (I.base.free b o e n hx)
  · obtain ⟨sl, e1⟩ := I.base.slot b o e n hb hx
    obtain ⟨sl', e2⟩ := slot b _ (neL b o e) hb (neC b o e hx) e1 (I.base.free b o e n hx)
    exact ⟨sl', e2⟩
  · obtain ⟨o', e1⟩ := I.base.there b o e hx
    exact free b o' (neC b o e hx) e1 (I.base.free b o e n hx)
  · obtain ⟨o', e1⟩ := I.base.there b o e hx
    exact there b o' (neC b o e hx) e1
  · obtain ⟨m1, e1⟩ := I.base.tbls b ps e
    obtain ⟨m2, e2⟩ := tbls b _ e1
    exact ⟨m1 ++ m2, by rw [e2, Array.append_assoc]⟩
  · obtain ⟨m, hn, hl⟩ := I.loc
    refine ⟨m, ns m hn, fun i x v e1 e2 e3 => ?_⟩
    obtain ⟨u, r, l⟩ := hl i x v e1 e2 e3
    refine ⟨u, r, ?_⟩
    rcases l with l | ⟨k, c, e, z⟩
    · exact .inl l
    · exact .inr ⟨k, c, e, cellK x c e _ z⟩
  · obtain ⟨v, z⟩ := I.cell x c e
    exact ⟨v, cellK x c e v z⟩
  · obtain ⟨m, ⟨o, _, _, ho, _⟩, _⟩ := I.loc
    exact free _ o (fun z => (hch _ z).2.1 rfl) ho I.free
  · obtain ⟨v, o, ho, hd⟩ := I.cell x c e
    exact free c o (fun z => (hch c z).2.2.1 x c e rfl) ho (I.freeC x c e)
  · obtain ⟨e, n, ne, nf, d⟩ := I.pin p hp
    have nch : p.1 ∉ ch := fun z => (hch p.1 z).2.2.2 p hp rfl
    exact ⟨keep p.1 p.2 ne nf nch e n, free p.1 p.2 nch e n, ne, nf, d⟩
theorem Inv.un {t' : Nat} (I : Inv X pins σ H s) (u : Un X.fs [] H H' s.heap h') (hok : HOk X.prog X.w H' h') : Inv X pins σ H' { s with heap := h', toks := t' } := by
  obtain ⟨m, ⟨o, es, ep, ho, r⟩, _⟩ := id I.loc
  obtain ⟨sl, hL⟩ := u.any ho I.free (by simp)
  exact I.step (g' := s.gens) (d' := s.drawn) (ch := []) (fun _ z => nomatch z) (fun b o _ hb _ e n => u.keep b o e n hb (by simp)) (fun b o _ hb _ e n => u.slot b o e n hb (by simp)) (fun b o _ e n => u.free b o e n (by simp)) (fun b o _ e => u.there b o e (by simp)) u.tups u.frzs u.tbls (fun m' hm => by
    obtain ⟨o', es', ep', ho', r'⟩ := hm
    rw [ho] at ho'; cases ho'
    exact ⟨_, es', ep', hL, r'⟩) hok I.bare
theorem Inv.call {g' : Array GenState} {t' : Nat} {d' : Drawn} {ch : List Addr} (I : Inv X pins σ H s) (u : Un (frs X.stack) ch H H' s.heap h') (hok : HOk X.prog X.w H' h') (hg : AllBare g')
    (hch : ∀ b ∈ ch, (b ∈ X.ex ∨ X.s₀.heap.objs.size ≤ b) ∧ b ≠ X.env.locals ∧ (∀ x c, X.env.cells.lookup x = some c → c ≠ b) ∧ ∀ p ∈ X.pn ++ pins, p.1 ≠ b) :
    Inv X pins σ H' { s with heap := h', gens := g', drawn := d', toks := t' } := by
  obtain ⟨m, ⟨o, es, ep, ho, r⟩, _⟩ := id I.loc
  obtain ⟨sl, hL⟩ := u.any ho I.free fun z => (hch _ z).2.1 rfl
  exact I.step (ch := ch) hch (fun b o hL hb hc e n => u.keep b o e n (fun z => (List.mem_cons.mp (I.stkSub b z)).elim hL hb) hc) (fun b o _ _ hc e n => u.any e n hc) (fun b o hc e n => u.free b o e n hc) (fun b o hc e => u.there b o e hc) u.tups u.frzs u.tbls (fun m' hm => by
    obtain ⟨o', es', ep', ho', r'⟩ := hm
    rw [ho] at ho'; cases ho'
    exact ⟨_, es', ep', hL, r'⟩) hok hg
theorem Inv.turned {t' : Nat} {it : Addr} (I : Inv X pins σ H s) (k : ∀ b o, b ≠ it → s.heap.get? b = some o → h'.get? b = some o) (hn : H it = none) (hL : it ≠ X.env.locals)
    (h1 : it ∈ X.ex ∨ X.s₀.heap.objs.size ≤ it) (h2 : ∀ x c, X.env.cells.lookup x = some c → c ≠ it) (h3 : ∀ p ∈ X.pn ++ pins, p.1 ≠ it) : Inv X pins σ H { s with heap := h', toks := t' } := by
  have nit : ∀ b u, H b = some u → b ≠ it := fun b u e z => by rw [z, hn] at e; cases e
  refine I.step (g' := s.gens) (d' := s.drawn) (ch := [it]) (fun b hb => ?_) (fun b o _ _ hc e _ => k b o (fun z => hc (by simp [z])) e) (fun b o _ _ hc e _ => ⟨o.slots, k b o (fun z => hc (by simp [z])) e⟩) (fun _ _ _ _ n => n)
    (fun b o hc e => ⟨o, k b o (fun z => hc (by simp [z])) e⟩) (fun _ _ e => e) (fun _ _ _ e => e) (fun b ps e => ⟨#[], by rw [e]; simp⟩) (fun m hm => ?_) (fun b u e => ?_) I.bare
  · have e : b = it := by simpa using hb
    subst e
    exact ⟨h1, hL, h2, h3⟩
  · obtain ⟨o, es, ep, ho, r⟩ := hm
    exact ⟨o, es, ep, k _ o (Ne.symm hL) ho, r⟩
  · refine (I.hok b u e).stay (fun c v hc q => k c v ?_ q) (fun _ q => q) fun _ _ q => q
    rcases hc with z | z
    · rw [z]; exact nit b u e
    · exact nit c _ z
theorem Inv.tok (I : Inv X pins σ H s) (t : Nat) : Inv X pins σ H { s with toks := t } := I.un (h' := s.heap) (t' := t) Un.refl I.hok
theorem Inv.kept {t' : Nat} (I : Inv X pins σ H s) (k : ∀ b u, s.heap.get? b = some u → h'.get? b = some u) : Inv X pins σ H { s with heap := h', toks := t' } := I.un (Un.kept k) (I.hok.kept k)
theorem Inv.laid {a : Addr} {o : HO} {t' : Nat} (I : Inv X pins σ H s) (k : ∀ b u, s.heap.get? b = some u → h'.get? b = some u) (hp : s.heap.objs.size ≤ a) (new : ObjOk X.prog X.w (upd H a o) h' a o) :
    Inv X pins σ (upd H a o) { s with heap := h', toks := t' } := I.un (Un.laid k hp (I.hok.fresh hp)) (I.hok.laid k hp new)
theorem Inv.write {x e : Addr} {o : HO} {t' : Nat} (I : Inv X pins σ H s) (mu : Mut (H x)) (he : e = x ∨ H e = some (.own x)) (k : ∀ b u, b ≠ e → s.heap.get? b = some u → h'.get? b = some u) (heo : ∃ u, h'.get? e = some u)
    (new : ObjOk X.prog X.w (upd H x o) h' x o) : Inv X pins σ (upd H x o) { s with heap := h', toks := t' } := I.un (Un.write mu he k heo) (I.hok.write mu he k heo new)
theorem Inv.pins_of {pins' : List (Addr × Obj)} (I : Inv X pins σ H s) (h : ∀ p ∈ pins', s.heap.get? p.1 = some p.2 ∧ H p.1 = none ∧ p.1 ≠ X.env.locals ∧ p.1 ∉ X.fs ∧ ∀ v, p.2.data ≠ .cell v) : Inv X pins' σ H s :=
  ⟨I.ok, I.os, I.bare, I.base, I.loc, I.cell, I.free, I.freeC, fun p hp => (List.mem_append.mp hp).elim (fun z => I.pin p (List.mem_append_left _ z)) (h p), I.hok, I.len⟩
theorem nodup_ix {N : List Str} (hN : N.Nodup) {i j : Nat} {x : Str} (a : N[i]? = some x) (b : N[j]? = some x) : i = j := by
  obtain ⟨h1, e1⟩ := List.getElem?_eq_some_iff.mp a
  obtain ⟨h2, e2⟩ := List.getElem?_eq_some_iff.mp b
  exact (List.getElem_inj hN).mp (e1.trans e2.symm)
theorem store_ok2 {M : Model} {A : Around} {E : Value → Shared → Prop} {i : Nat} {x : Str} {v : V} {u : Value} {Q : Unit → Shared → Prop} (I : Inv X pins σ H s) (hN : X.N.Nodup) (hi : X.N[i]? = some x) (hx : Loc X.env.scope x) (r : RelV v u)
    (h : ∀ s', Inv X pins (σ.set i (some v)) H s' → (∃ a, Heap.SameBut a s.heap s'.heap ∧ (a = X.env.locals ∨ X.env.cells.lookup x = some a)) → Q () s') (hf : X.fn x = true ∨ X.env.scope.names.lookup x = some .local := by first | exact .inl rfl | exact .inr rfl | assumption) : wpAny M A (storeName X.env x u) Q E s := by
  obtain ⟨m, hn, hl⟩ := id I.loc
  have hcls : (X.env.scope.kind == .class || (X.env.scope.kind == .module && X.env.locals != X.env.globals)) = false := by rw [I.ok.kind]; rfl
  have hiσ : i < σ.length := by rw [I.len]; exact (List.getElem?_eq_some_iff.mp hi).1
  have cne := I.cne
  have tracked : ∀ {a : Addr} {h' : Heap}, (∃ o, s.heap.get? a = some o ∧ H a = none) → Heap.SameBut a s.heap h' → HOk X.prog X.w H h' := fun {a h'} ha hs b ob e => by
    obtain ⟨_, _, hfree⟩ := ha
    refine (I.hok b ob e).stay (fun c w' hc q => (hs.2 c ?_).trans q) (fun _ q => q) fun _ _ q => q
    rintro rfl
    rcases hc with rfl | hc
    · rw [hfree] at e; cases e
    · rw [hfree] at hc; cases hc
  rcases hx with hk | hk
  · refine wpAny_storeName_local hk hn (fun h' hn' hs => ?_) hcls
    obtain ⟨oL, _, _, hoL, _⟩ := id hn
    refine h _ ⟨I.ok, I.os, I.bare, ⟨fun b o e n hb hx => ?_, fun b o e n hb hx => ?_, I.base.free, fun b o e hx => ?_, I.base.tups, I.base.frzs, I.base.tbls⟩, ⟨_, hn', fun j y v' e1 e2 e3 => ?_⟩, fun y c e => ?_, I.free, I.freeC, fun p hp => ?_, tracked ⟨oL, hoL, I.free⟩ hs, by simpa using I.len⟩ ⟨_, hs, .inl rfl⟩
    · exact (hs.2 b (Nat.ne_of_lt (Nat.lt_of_lt_of_le (Heap.lt_size e) I.ok.above))).trans (I.base.keep b o e n hb hx)
    · obtain ⟨sl, e1⟩ := I.base.slot b o e n hb hx
      exact ⟨sl, (hs.2 b (Nat.ne_of_lt (Nat.lt_of_lt_of_le (Heap.lt_size e) I.ok.above))).trans e1⟩
    · obtain ⟨o', e1⟩ := I.base.there b o e hx
      exact ⟨o', (hs.2 b (Nat.ne_of_lt (Nat.lt_of_lt_of_le (Heap.lt_size e) I.ok.above))).trans e1⟩
    · by_cases hj : j = i
      · subst hj
        rw [hi] at e1; cases e1
        rw [List.getElem?_set_self hiσ] at e2
        cases e2
        exact ⟨u, r, .inl ⟨hk, by simp⟩⟩
      · rw [List.getElem?_set_ne (Ne.symm hj)] at e2
        obtain ⟨u', r', q⟩ := hl j y v' e1 e2 e3
        refine ⟨u', r', ?_⟩
        rcases q with ⟨k, e⟩ | ⟨k, c, e, z⟩
        · refine .inl ⟨k, ?_⟩
          have : y ≠ x := fun e => hj (nodup_ix hN e1 (e ▸ hi))
          simp [this, e]
        · exact .inr ⟨k, c, e, z.sameBut hs (cne y c e)⟩
    · obtain ⟨w', z⟩ := I.cell y c e
      exact ⟨w', z.sameBut hs (cne y c e)⟩
    · obtain ⟨e, n, ne, nf, d⟩ := I.pin p hp
      exact ⟨(hs.2 p.1 ne).trans e, n, ne, nf, d⟩
  · have hfn : X.fn x = true := by
      rcases hf with z | z
      · exact z
      · rw [z] at hk; cases hk
    obtain ⟨c, hc⟩ := I.ok.has x (.inl hk)
    obtain ⟨w', z⟩ := I.cell x c hc
    refine wpAny_storeName_cell I.ok.kind hk hc z (fun h' hc' hs => ?_)
    obtain ⟨oc, hoc, hocd⟩ := id z
    refine h { s with heap := h' } ⟨I.ok, I.os, I.bare, ⟨fun b o e n hb hx => ?_, fun b o e n hb hx => ?_, I.base.free, fun b o e hx => ?_, I.base.tups, I.base.frzs, I.base.tbls⟩, ⟨m, hn.sameBut hs (Ne.symm (cne x c hc)), fun j y v' e1 e2 e3 => ?_⟩, fun y c' e => ?_, I.free, I.freeC, fun p hp => ?_, tracked ⟨oc, hoc, I.freeC x c hc⟩ hs, by simpa using I.len⟩ ⟨c, hs, .inr hc⟩
    · exact (hs.2 b (Nat.ne_of_lt (Nat.lt_of_lt_of_le (Heap.lt_size e) (I.ok.cab x c hfn hc)))).trans (I.base.keep b o e n hb hx)
    · obtain ⟨sl, e1⟩ := I.base.slot b o e n hb hx
      exact ⟨sl, (hs.2 b (Nat.ne_of_lt (Nat.lt_of_lt_of_le (Heap.lt_size e) (I.ok.cab x c hfn hc)))).trans e1⟩
    · obtain ⟨o', e1⟩ := I.base.there b o e hx
      exact ⟨o', (hs.2 b (Nat.ne_of_lt (Nat.lt_of_lt_of_le (Heap.lt_size e) (I.ok.cab x c hfn hc)))).trans e1⟩
    · by_cases hj : j = i
      · subst hj
        rw [hi] at e1; cases e1
        rw [List.getElem?_set_self hiσ] at e2
        cases e2
        exact ⟨u, r, .inr ⟨.inl hk, c, hc, hc'⟩⟩
      · rw [List.getElem?_set_ne (Ne.symm hj)] at e2
        obtain ⟨u', r', q⟩ := hl j y v' e1 e2 e3
        refine ⟨u', r', ?_⟩
        rcases q with q | ⟨k, c', e, z'⟩
        · exact .inl q
        · refine .inr ⟨k, c', e, z'.sameBut hs ?_⟩
          rintro rfl
          exact hj (nodup_ix hN e1 (I.ok.inj _ _ _ e hc ▸ hi))
    · by_cases hcc : c' = c
      · subst hcc; exact ⟨_, hc'⟩
      · obtain ⟨w2, z2⟩ := I.cell y c' e
        exact ⟨w2, z2.sameBut hs hcc⟩
    · obtain ⟨e, n, ne, nf, d⟩ := I.pin p hp
      refine ⟨(hs.2 p.1 ?_).trans e, n, ne, nf, d⟩
      intro q
      rw [q, hoc] at e
      have q' : oc = p.2 := Option.some.inj e
      exact d w' (by rw [← q']; exact hocd)
theorem store_ok {M : Model} {A : Around} {E : Value → Shared → Prop} {i : Nat} {x : Str} {v : V} {u : Value} {Q : Unit → Shared → Prop} (I : Inv X pins σ H s) (hN : X.N.Nodup) (hi : X.N[i]? = some x) (hx : Loc X.env.scope x) (r : RelV v u)
    (h : ∀ s', Inv X pins (σ.set i (some v)) H s' → Q () s') (hf : X.fn x = true ∨ X.env.scope.names.lookup x = some .local := by first | exact .inl rfl | exact .inr rfl | assumption) : wpAny M A (storeName X.env x u) Q E s :=
  store_ok2 I hN hi hx r (fun s' I' _ => h s' I') hf
theorem Inv.call' {s' : Shared} {ch : List Addr} (I : Inv X pins σ H s) (ho : s'.os = s.os) (u : Un (frs X.stack) ch H H' s.heap s'.heap) (hok : HOk X.prog X.w H' s'.heap) (hg : AllBare s'.gens)
    (hch : ∀ b ∈ ch, (b ∈ X.ex ∨ X.s₀.heap.objs.size ≤ b) ∧ b ≠ X.env.locals ∧ (∀ x c, X.env.cells.lookup x = some c → c ≠ b) ∧ ∀ p ∈ X.pn ++ pins, p.1 ≠ b) : Inv X pins σ H' s' := by
  obtain ⟨h', g', d', t', o'⟩ := s'
  have e : o' = s.os := ho
  subst e
  exact I.call (g' := g') (t' := t') (d' := d') u hok hg hch
end
abbrev XK := Value → Option Addr → Hp → Prop
abbrev St := List (Option V)
abbrev VK := V → Hp → Prop
abbrev TE := St → Hp → VK → Prop
abbrev TT := St → Hp → (Bool → Hp → Prop) → Prop
abbrev TA := St → Hp → (List V → Hp → Prop) → Prop
structure Ends where
  nx : St → Hp → Prop
  rt : VK
  bk : St → Hp → Prop := fun _ _ => False
  ct : St → Hp → Prop := fun _ _ => False
abbrev TS := Ends → St → Hp → Prop
def EP (X : Cx) (pins : List (Addr × Obj)) (σ : St) (Q : VK) (u : Value) (s' : Shared) : Prop := ∃ v H', Inv X pins σ H' s' ∧ RelV v u ∧ Q v H'
def TP (X : Cx) (pins : List (Addr × Obj)) (σ : St) (Q : Bool → Hp → Prop) (b : Bool) (s' : Shared) : Prop := ∃ H', Inv X pins σ H' s' ∧ Q b H'
def AP (X : Cx) (pins : List (Addr × Obj)) (σ : St) (Q : List V → Hp → Prop) (us : List Value) (s' : Shared) : Prop := ∃ vs H', Inv X pins σ H' s' ∧ Vals vs us ∧ Q vs H'
def SP (X : Cx) (pins : List (Addr × Obj)) (D : Ends) (f : Flow) (s' : Shared) : Prop :=
  match f with
  | .next => ∃ σ' H', Inv X pins σ' H' s' ∧ D.nx σ' H'
  | .brk => ∃ σ' H', Inv X pins σ' H' s' ∧ D.bk σ' H'
  | .cont => ∃ σ' H', Inv X pins σ' H' s' ∧ D.ct σ' H'
  | .ret u => ∃ v σ' H', Inv X pins σ' H' s' ∧ RelV v u ∧ D.rt v H'
def PE (X : Cx) (e : Expr) (t : TE) : Prop :=
  ∀ (pins : List (Addr × Obj)) (s : Shared) (σ : St) (H : Hp) (Q : VK), Inv X pins σ H s → t σ H Q → wpAny (model X.prog X.w) X.A (eval e X.env) (EP X pins σ Q) X.xe s
def PT (X : Cx) (e : Expr) (t : TT) : Prop :=
  ∀ (pins : List (Addr × Obj)) (s : Shared) (σ : St) (H : Hp) (Q : Bool → Hp → Prop), Inv X pins σ H s → t σ H Q → wpAny (model X.prog X.w) X.A (isTrue e X.env (eval e X.env)) (TP X pins σ Q) X.xe s
def PW (X : Cx) (e : Expr) (t : TT) : Prop :=
  ∀ (whole : Sem Value) (pins : List (Addr × Obj)) (s : Shared) (σ : St) (H : Hp) (Q : Bool → Hp → Prop), Inv X pins σ H s → t σ H Q → wpAny (model X.prog X.w) X.A (isTrue e X.env whole) (TP X pins σ Q) X.xe s
theorem PW.pt {X : Cx} {e : Expr} {t : TT} (h : PW X e t) : PT X e t := h _
def PA (X : Cx) (es : List Expr) (t : TA) : Prop :=
  ∀ (pos : Pos) (pins : List (Addr × Obj)) (s : Shared) (σ : St) (H : Hp) (Q : List V → Hp → Prop), Inv X pins σ H s → t σ H Q → wpAny (model X.prog X.w) X.A (spliced (backTo pos (starEach es X.env))) (AP X pins σ Q) X.xe s
def PS (X : Cx) (st : Stmt) (t : TS) : Prop :=
  ∀ (pins : List (Addr × Obj)) (s : Shared) (σ : St) (H : Hp) (D : Ends), Inv X pins σ H s → t D σ H → wpAny (model X.prog X.w) X.A (exec st X.env) (SP X pins D) X.xe s
def PSs (X : Cx) (st : List Stmt) (t : TS) : Prop :=
  ∀ (pins : List (Addr × Obj)) (s : Shared) (σ : St) (H : Hp) (D : Ends), Inv X pins σ H s → t D σ H → wpAny (model X.prog X.w) X.A (execs st X.env) (SP X pins D) X.xe s
theorem thn {α : Type} {t : Sem α} {Q Q' : α → Shared → Prop} {M : Model} {A : Around} {E : Value → Shared → Prop} {s : Shared} (h : wpAny M A t Q E s) (hQ : ∀ a s, Q a s → Q' a s) : wpAny M A t Q' E s := wpAny_mono h hQ fun _ _ x => x
end L2
namespace L2
open PySem PySem.Spec PyProof.Rows
section
variable {X : Cx}
def tVar (i : Nat) : TE := fun σ H Q => ∃ v, σ[i]? = some (some v) ∧ Q v H
def tC (v : V) : TE := fun _ H Q => Q v H
theorem pe_var {i : Nat} {x : Str} {pos : Pos} (hN : X.N[i]? = some x) (hv : Vis X.env.scope x) (hd : (x == ("__debug__" : Str)) = false := by decide) (hcd : (x == ("__classdict__" : Str)) = false := by decide) : PE X (.Name x pos) (tVar i) := by
  intro pins s σ H Q I h
  obtain ⟨v, e, h⟩ := h
  obtain ⟨m, hn, hl⟩ := I.loc
  obtain ⟨u, r, l⟩ := hl i x v hN e hv
  have fin : EP X pins σ Q u s := ⟨v, H, I, r, h⟩
  rcases l with ⟨hk, hm⟩ | ⟨hk, c, hc, hcell⟩
  · exact wpAny_Name (wpAny_loadName_local I.ok.kind hk hn hm fin) hd
  · rcases hk with hk | hk
    · exact wpAny_Name (wpAny_loadName_cell I.ok.kind hk hc hcell fin) hd
    · exact wpAny_Name (wpAny_loadName_free I.ok.kind hk hc hcell fin hcd) hd
theorem pe_int {i j pos} : PE X (.Constant (.int i) j pos) (tC (.int i)) := fun _ _ _ H _ I h => wpAny_Constant_int ⟨.int i, H, I.tok _, ⟨_, rfl⟩, h⟩
theorem pe_bl {b j pos} : PE X (.Constant (.bool b) j pos) (tC (.bl b)) := fun _ _ _ H _ I h => Constant_bool ⟨.bl b, H, I, rfl, h⟩
theorem pe_str {x j pos} : PE X (.Constant (.str x) j pos) (tC (.str x)) := fun _ _ _ H _ I h => Calls.Constant_str ⟨.str x, H, I.tok _, ⟨_, rfl⟩, h⟩
def Gl (X : Cx) (x : Str) : Prop := X.env.kindOf x = some .globalImplicit
theorem ld_glob {E : Value → Shared → Prop} {pins : List (Addr × Obj)} {s : Shared} {σ : St} {H : Hp} {x : Str} {u : Value} {pos : Pos} {Q : Value → Shared → Prop} (I : Inv X pins σ H s) (hg : Gl X x) (hm : X.mg x = some u) (h : Q u s)
    (hd : (x == ("__debug__" : Str)) = false := by decide) : wpAny (model X.prog X.w) X.A (eval (.Name x pos) X.env) Q E s :=
  Calls.Name_function_global I.ok.kind hg (Calls.loadGlobal_global (by rw [I.ok.glob]; exact I.mod.glob.keeps I.bk) hm h) hd
theorem ld_blt {E : Value → Shared → Prop} {pins : List (Addr × Obj)} {s : Shared} {σ : St} {H : Hp} {x : Str} {u : Value} {pos : Pos} {Q : Value → Shared → Prop} (I : Inv X pins σ H s) (hg : Gl X x) (hm : X.mg x = none) (hv : bootBuiltins x = some u) (h : Q u s)
    (hn : x ≠ "__name__" := by decide) (hd : (x == ("__debug__" : Str)) = false := by decide) : wpAny (model X.prog X.w) X.A (eval (.Name x pos) X.env) Q E s := by
  obtain ⟨mb, h1, h2⟩ := I.mod.blt
  exact Calls.Name_function_global I.ok.kind hg (Calls.loadGlobal_builtin (by rw [I.ok.glob]; exact I.mod.glob.keeps I.bk) hm (by rw [I.ok.blt]; exact h1.keeps I.bk) ((h2 x hn).trans hv) h) hd
theorem pe_glob {x : Str} {v : V} {u : Value} {pos : Pos} (hg : Gl X x) (hm : X.mg x = some u) (r : RelV v u) (hd : (x == ("__debug__" : Str)) = false := by decide) : PE X (.Name x pos) (tC v) :=
  fun _ _ _ H _ I h => ld_glob I hg hm ⟨v, H, I, r, h⟩ hd
theorem pe_bltn {x : Str} {v : V} {u : Value} {pos : Pos} (hg : Gl X x) (hm : X.mg x = none) (hv : bootBuiltins x = some u) (r : RelV v u) (hn : x ≠ "__name__" := by decide) (hd : (x == ("__debug__" : Str)) = false := by decide) : PE X (.Name x pos) (tC v) :=
  fun _ _ _ H _ I h => ld_blt I hg hm hv ⟨v, H, I, r, h⟩ hn hd
variable {a b : Expr} {ta tb : TE} {pos : Pos}
def tB (t : TE) : TT := fun σ H Q => t σ H fun x H1 => ∃ c, x = .bl c ∧ Q c H1
theorem pt_val {e : Expr} {t : TE} (h : PE X e t) (he : ∀ whole, isTrue e X.env whole = (do let v ← whole; standAt e.pos; holding [v] (truthy v)) := by intro _; rfl) : PT X e (tB t) := by
  intro pins s σ H Q I hw
  refine isTrue_plain (thn (h pins s σ H _ I hw) fun v s1 ⟨x, H1, I1, r1, q1⟩ => ?_) (he _)
  obtain ⟨d, rfl, q⟩ := q1
  cases r1
  exact wpAny_truthy_bool ⟨H1, I1, q⟩
variable {tA tB' : TT} {rest : List Expr}
def tAnd (t u : TT) : TT := fun σ H Q => t σ H fun c H1 => if c = true then u σ H1 Q else Q false H1
def tOr (t u : TT) : TT := fun σ H Q => t σ H fun c H1 => if c = true then Q true H1 else u σ H1 Q
def tNot (t : TT) : TT := fun σ H Q => t σ H fun c H1 => Q (!c) H1
theorem pw_and1 (ha : PT X a tA) : PW X (.BoolOp .And [a] pos) tA := by
  intro wh pins s σ H Q I h
  refine isTrue_and (thn (ha pins s σ H Q I h) fun c s1 e => ?_)
  cases c with
  | true => exact isTrue_and_nil e
  | false => exact e
theorem pw_or1 (ha : PT X a tA) : PW X (.BoolOp .Or [a] pos) tA := by
  intro wh pins s σ H Q I h
  refine isTrue_or (thn (ha pins s σ H Q I h) fun c s1 e => ?_)
  cases c with
  | false => exact isTrue_or_nil e
  | true => exact e
theorem pw_and (ha : PT X a tA) (hb : PW X (.BoolOp .And (b :: rest) pos) tB') : PW X (.BoolOp .And (a :: b :: rest) pos) (tAnd tA tB') := by
  intro wh pins s σ H Q I h
  refine isTrue_and (thn (ha pins s σ H _ I h) fun c s1 ⟨H1, I1, q1⟩ => ?_)
  cases c with
  | true => exact hb wh pins s1 σ H1 Q I1 q1
  | false => exact ⟨H1, I1, q1⟩
theorem pw_or (ha : PT X a tA) (hb : PW X (.BoolOp .Or (b :: rest) pos) tB') : PW X (.BoolOp .Or (a :: b :: rest) pos) (tOr tA tB') := by
  intro wh pins s σ H Q I h
  refine isTrue_or (thn (ha pins s σ H _ I h) fun c s1 ⟨H1, I1, q1⟩ => ?_)
  cases c with
  | true => exact ⟨H1, I1, q1⟩
  | false => exact hb wh pins s1 σ H1 Q I1 q1
theorem pt_not (ha : PT X a tA) : PT X (.UnaryOp .Not a pos) (tNot tA) := by
  intro pins s σ H Q I h
  exact isTrue_not (ha pins s σ H (fun c H1 => Q (!c) H1) I h)
def tAndV (ta tb : TE) : TE := fun σ H Q => ta σ H fun x H1 => ∃ c, x = .bl c ∧ if c = true then tb σ H1 Q else Q (.bl false) H1
def tNotV (ta : TE) : TE := fun σ H Q => ta σ H fun x H1 => ∃ c, x = .bl c ∧ Q (.bl (!c)) H1
theorem pe_one {op} {t : TE} (h : PE X a t) : PE X (.BoolOp op [a] pos) t := fun pins s σ H Q I hw => BoolOp_one (h pins s σ H Q I hw)
theorem pe_and (ha : PE X a ta) (hb : PE X (.BoolOp .And (b :: rest) pos) tb) : PE X (.BoolOp .And (a :: b :: rest) pos) (tAndV ta tb) := by
  intro pins s σ H Q I h
  refine BoolOp_and (thn (ha pins s σ H _ I h) fun v s1 ⟨x, H1, I1, r1, q1⟩ => ?_)
  obtain ⟨c, rfl, q1⟩ := q1
  cases r1
  refine wpAny_truthy_bool ?_
  cases c with
  | true => exact hb pins s1 σ H1 Q I1 q1
  | false => exact ⟨.bl false, H1, I1, rfl, q1⟩
theorem pe_not (ha : PE X a ta) : PE X (.UnaryOp .Not a pos) (tNotV ta) := by
  intro pins s σ H Q I h
  refine UnaryOp_ (thn (ha pins s σ H _ I h) fun v s1 ⟨x, H1, I1, r1, q1⟩ => ?_)
  obtain ⟨c, rfl, q1⟩ := q1
  cases r1
  exact not_of (wpAny_truthy_bool ⟨.bl (!c), H1, I1, rfl, q1⟩)
end
end L2
namespace L2
open PySem PySem.Spec PyProof.Rows
def SqL (K : PySem.W.Frag) (H : Hp) (a : Addr) (xs : List V) : Prop :=
  Rd H a (.lst xs) ∨
    ∃ (o : Obj) (its : Array Value) (n : Nat), K.lookup a = some o ∧ o.cls = .type "list" ∧ o.dict = none ∧ o.data = .seq its n ∧ its.size ≤ sizeLine ∧ Vals xs its.toList
def SqT (K : PySem.W.Frag) (H : Hp) (a : Addr) (xs : List V) : Prop :=
  Rd H a (.tup xs) ∨
    ∃ (o : Obj) (its : Array Value) (n : Nat), K.lookup a = some o ∧ o.cls = .type "tuple" ∧ o.data = .seq its n ∧ its.size ≤ sizeLine ∧ Vals xs its.toList
def absV : Value → Option V
  | .none => some .non
  | .bool b => some (.bl b)
  | .int i _ => some (.int i)
  | .str x _ => some (.str x)
  | .bytes b _ => some (.byt b)
  | .float b _ => some (.flt b)
  | .ref a => some (.ref a)
  | .type n => some (.ty n)
  | _ => none
theorem RelV.abs {x : V} {u : Value} (r : RelV x u) : absV u = some x := by
  cases x with
  | non => cases r; rfl
  | bl _ => cases r; rfl
  | int _ => obtain ⟨t, rfl⟩ := r; rfl
  | str _ => obtain ⟨t, rfl⟩ := r; rfl
  | byt _ => obtain ⟨t, rfl⟩ := r; rfl
  | flt _ => obtain ⟨t, rfl⟩ := r; rfl
  | ref _ => cases r; rfl
  | ty _ => cases r; rfl
theorem RelV.inj {x y : V} {u : Value} (r : RelV x u) (q : RelV y u) : x = y := Option.some.inj (r.abs.symm.trans q.abs)
theorem Vals.inj : ∀ {xs ys : List V} {us : List Value}, Vals xs us → Vals ys us → xs = ys
  | _, _, _, .nil, .nil => rfl
  | _, _, _, .cons r t, .cons r' t' => by rw [r.inj r', Vals.inj t t']
section
variable {X : Cx} {pins : List (Addr × Obj)} {σ : St} {H : Hp} {s : Shared} {a : Addr} {xs ys : List V}
theorem SqL.of {K : PySem.W.Frag} (h : H a = some (.lst xs)) : SqL K H a xs := .inl (.inl h)
theorem SqT.of {K : PySem.W.Frag} (h : H a = some (.tup xs)) : SqT K H a xs := .inl (.inl h)
theorem Inv.list (I : Inv X pins σ H s) (h : SqL X.K H a xs) : ∃ its : List Value, Vals xs its ∧ PlainL s.heap a its.toArray ∧ xs.length ≤ sizeLine := by
  rcases h with h | ⟨o, its, n, hk, hc, hd, hs, hz, r⟩
  · obtain ⟨z, its, n, r, e⟩ := h.ok I.hok
    exact ⟨its, r, ⟨_, n, e, rfl, rfl, rfl⟩, z⟩
  · refine ⟨its.toList, r, ⟨o, n, I.kIn a o hk, hc, hd, by simpa using hs⟩, ?_⟩
    have e := r.length
    simp only [Array.length_toList] at e
    omega
theorem Inv.tuple (I : Inv X pins σ H s) (h : SqT X.K H a xs) : ∃ its : List Value, Vals xs its ∧ IsTup s.heap a its.toArray ∧ xs.length ≤ sizeLine := by
  rcases h with h | ⟨o, its, n, hk, hc, hs, hz, r⟩
  · obtain ⟨z, its, r, p⟩ := h.ok I.hok
    exact ⟨its, r, p, z⟩
  · refine ⟨its.toList, r, ⟨o, I.kIn a o hk, hc, n, by simpa using hs⟩, ?_⟩
    have e := r.length
    simp only [Array.length_toList] at e
    omega
theorem Inv.list_inj (I : Inv X pins σ H s) (h : SqL X.K H a xs) (h' : SqL X.K H a ys) : xs = ys := by
  obtain ⟨its, r, ⟨o, n, e, _, _, d⟩, _⟩ := I.list h
  obtain ⟨its', r', ⟨o', n', e', _, _, d'⟩, _⟩ := I.list h'
  rw [e] at e'; cases e'
  rw [d] at d'
  injection d' with d1 _
  have : its = its' := by simpa using congrArg Array.toList d1
  subst this
  exact r.inj r'
theorem Inv.tuple_inj (I : Inv X pins σ H s) (h : SqT X.K H a xs) (h' : SqT X.K H a ys) : xs = ys := by
  obtain ⟨its, r, ⟨o, e, _, n, d⟩, _⟩ := I.tuple h
  obtain ⟨its', r', ⟨o', e', _, n', d'⟩, _⟩ := I.tuple h'
  rw [e] at e'; cases e'
  rw [d] at d'
  injection d' with d1 _
  have : its = its' := by simpa using congrArg Array.toList d1
  subst this
  exact r.inj r'
end
abbrev Cx.wish (X : Cx) (E : Value → Shared → Prop) : Cx := { X with xe := E }
abbrev Cx.nox (X : Cx) : Cx := X.wish fun _ _ => False
theorem Cx.Ok.wish {X : Cx} (ok : X.Ok) (E : Value → Shared → Prop) : (X.wish E).Ok :=
  ⟨ok.mod, ok.kind, ok.glob, ok.blt, ok.above, ok.inj, ok.has, ok.cab, ok.hd, ok.frames, ok.stk, ok.exf, ok.bs, ok.bsz, ok.noex, ok.exfs, ok.funs, ok.frf⟩
theorem Cx.Ok.unwish {X : Cx} {E : Value → Shared → Prop} (ok : (X.wish E).Ok) : X.Ok :=
  ⟨ok.mod, ok.kind, ok.glob, ok.blt, ok.above, ok.inj, ok.has, ok.cab, ok.hd, ok.frames, ok.stk, ok.exf, ok.bs, ok.bsz, ok.noex, ok.exfs, ok.funs, ok.frf⟩
section
variable {X : Cx} {pins : List (Addr × Obj)} {σ : St} {H : Hp} {s : Shared} {E : Value → Shared → Prop}
theorem Inv.wish (I : Inv X pins σ H s) (E : Value → Shared → Prop) : Inv (X.wish E) pins σ H s := ⟨I.ok.wish E, I.os, I.bare, I.base, I.loc, I.cell, I.free, I.freeC, I.pin, I.hok, I.len⟩
theorem Inv.unwish (I : Inv (X.wish E) pins σ H s) : Inv X pins σ H s := ⟨I.ok.unwish, I.os, I.bare, I.base, I.loc, I.cell, I.free, I.freeC, I.pin, I.hok, I.len⟩
theorem SP.unwish {D : Ends} {f : Flow} {s' : Shared} (h : SP (X.wish E) pins D f s') : SP X pins D f s' := by
  cases f with
  | next => obtain ⟨σ', H', I, q⟩ := h; exact ⟨σ', H', I.unwish, q⟩
  | brk => obtain ⟨σ', H', I, q⟩ := h; exact ⟨σ', H', I.unwish, q⟩
  | cont => obtain ⟨σ', H', I, q⟩ := h; exact ⟨σ', H', I.unwish, q⟩
  | ret u => obtain ⟨v, σ', H', I, r, q⟩ := h; exact ⟨v, σ', H', I.unwish, r, q⟩
theorem PE.nox {e : Expr} {t : TE} (h : PE X.nox e t) : PE X e t := fun pins s σ H Q I hw =>
  wpAny_mono (h pins s σ H Q (I.wish _) hw) (fun _ _ ⟨v, H', I', r, q⟩ => ⟨v, H', I'.unwish, r, q⟩) fun _ _ z => False.elim z
theorem PT.nox {e : Expr} {t : TT} (h : PT X.nox e t) : PT X e t := fun pins s σ H Q I hw =>
  wpAny_mono (h pins s σ H Q (I.wish _) hw) (fun _ _ ⟨H', I', q⟩ => ⟨H', I'.unwish, q⟩) fun _ _ z => False.elim z
theorem PSs.nox {st : List Stmt} {t : TS} (h : PSs X.nox st t) : PSs X st t := fun pins s σ H D I hw =>
  wpAny_mono (h pins s σ H D (I.wish _) hw) (fun _ _ q => q.unwish) fun _ _ z => False.elim z
end
section
variable {X : Cx} {st : Stmt} {rest : List Stmt} {t u : TS} {e : Expr} {te : TE} {pos : Pos}
def tNext : TS := fun D σ H => D.nx σ H
def tSeq (t u : TS) : TS := fun D σ H => t { D with nx := u D } σ H
theorem pss_nil : PSs X [] tNext := fun _ _ σ H _ I h => wpAny_execs_nil ⟨σ, H, I, h⟩
theorem pss_cons (h1 : PS X st t) (h2 : PSs X rest u) : PSs X (st :: rest) (tSeq t u) := by
  intro pins s σ H D I h
  refine wpAny_execs_cons (thn (h1 pins s σ H { D with nx := u D } I h) fun f s1 q => ?_)
  cases f with
  | next =>
    obtain ⟨σ', H', I', q⟩ := q
    exact h2 pins s1 σ' H' D I' q
  | ret v => exact q
  | brk => exact q
  | cont => exact q
theorem pss_one (h1 : PS X st t) : PSs X [st] t := by
  intro pins s σ H D I h
  refine wpAny_execs_cons (thn (h1 pins s σ H D I h) fun f s1 q => ?_)
  cases f with
  | next => exact wpAny_execs_nil q
  | ret v => exact q
  | brk => exact q
  | cont => exact q
theorem Inv.quiet {pins : List (Addr × Obj)} {σ : St} {H : Hp} {s : Shared} (I : Inv X pins σ H s) : interactive X.env = false := by simp [interactive, I.ok.kind]
def tDrop (te : TE) : TS := fun D σ H => te σ H fun _ H1 => D.nx σ H1
theorem ps_expr (he : PE X e te) (hs : swapsWith e none pos.line X.env = pure false := by rfl) : PS X (.Expr e pos) (tDrop te) := by
  intro pins s σ H D I h
  exact wpAny_Expr_any (thn (he pins s σ H _ I h) fun v s1 ⟨x, H1, I1, r1, q1⟩ => ⟨σ, H1, I1, q1⟩) I.quiet hs
def tRet (te : TE) : TS := fun D σ H => te σ H D.rt
theorem ps_ret (he : PE X e te) : PS X (.Return (some e) pos) (tRet te) := by
  intro pins s σ H D I h
  exact wpAny_Return_some (thn (he pins s σ H _ I h) fun v s1 ⟨x, H1, I1, r1, q1⟩ => ⟨x, σ, H1, I1, r1, q1⟩)
def tIfS (c : TT) (t u : TS) : TS := fun D σ H => c σ H fun b H1 => if b = true then t D σ H1 else u D σ H1
theorem ps_if {c : Expr} {a b : List Stmt} {tc : TT} (hc : PT X c tc) (ha : PSs X a t) (hb : PSs X b u) : PS X (.If c a b pos) (tIfS tc t u) := by
  intro pins s σ H D I h
  refine wpAny_If (thn (hc pins s σ H _ I h) fun d s1 ⟨H1, I1, q1⟩ => ?_)
  cases d with
  | true => exact ha pins s1 σ H1 D I1 q1
  | false => exact hb pins s1 σ H1 D I1 q1
end
abbrev TG := V → St → Hp → (St → Hp → Prop) → Prop
abbrev TGs := List V → St → Hp → (St → Hp → Prop) → Prop
def PG (X : Cx) (target : Expr) (t : TG) : Prop :=
  ∀ (pins : List (Addr × Obj)) (s : Shared) (σ : St) (H : Hp) (v : V) (u : Value) (Q : St → Hp → Prop), Inv X pins σ H s → RelV v u → t v σ H Q →
    wpAny (model X.prog X.w) X.A (assign target X.env u) (fun _ s' => ∃ σ' H', Inv X pins σ' H' s' ∧ Q σ' H') X.xe s
def PGs (X : Cx) (ts : List Expr) (t : TGs) : Prop :=
  ∀ (pins : List (Addr × Obj)) (s : Shared) (σ : St) (H : Hp) (vs : List V) (us : List Value) (Q : St → Hp → Prop), Inv X pins σ H s → Vals vs us → t vs σ H Q →
    wpAny (model X.prog X.w) X.A (assignInOrder ((assignEach ts X.env).map (·.2)) us) (fun _ s' => ∃ σ' H', Inv X pins σ' H' s' ∧ Q σ' H') X.xe s
abbrev TSet := V → V → V → Hp → (Hp → Prop) → Prop
def PSet (X : Cx) (t : TSet) : Prop :=
  ∀ (pins : List (Addr × Obj)) (s : Shared) (σ : St) (H : Hp) (o i v : V) (ov iv u : Value) (Q : Hp → Prop), Inv X pins σ H s → RelV o ov → RelV i iv → RelV v u → t o i v H Q →
    wpAny (model X.prog X.w) X.A (setItem ov iv u) (fun _ s' => ∃ H', Inv X pins σ H' s' ∧ Q H') X.xe s
section
variable {X : Cx} {pos : Pos}
def gName (i : Nat) : TG := fun v σ H Q => Q (σ.set i (some v)) H
theorem pg_name {i : Nat} {x : Str} (hN : X.N.Nodup) (hi : X.N[i]? = some x) (hx : Loc X.env.scope x) (hf : X.fn x = true ∨ X.env.scope.names.lookup x = some .local := by first | exact .inl rfl | exact .inr rfl | assumption) : PG X (.Name x pos) (gName i) := by
  intro pins s σ H v u Q I r h
  exact wpAny_assign_Name (store_ok I hN hi hx r (fun s' I' => ⟨_, H, I', h⟩) hf)
def gSub (to ti : TE) (t : TSet) : TG := fun v σ H Q => to σ H fun o H1 => ti σ H1 fun i H2 => t o i v H2 fun H3 => Q σ H3
theorem pg_sub {o i : Expr} {to ti : TE} {t : TSet} (ho : PE X o to) (hi : PE X i ti) (hs : PSet X t)
    (ha : ∀ v, assign (.Subscript o i pos) X.env v = (do
      let ov ← holding [v] (eval o X.env)
      let iv ← holding [v, ov] (eval i X.env)
      standAt pos
      holding [v, ov, iv] (setItem ov iv v)
      release [v, ov, iv] []) := by intro _; rfl) : PG X (.Subscript o i pos) (gSub to ti t) := by
  intro pins s σ H v u Q I r h
  rw [ha]
  refine wpAny_bind (wpAny_holding (thn (ho pins s σ H _ I h) fun ov s1 ⟨x, H1, I1, r1, q1⟩ => ?_))
  refine wpAny_bind (wpAny_holding (thn (hi pins s1 σ H1 _ I1 q1) fun iv s2 ⟨y, H2, I2, r2, q2⟩ => ?_))
  refine wpAny_bind (wpAny_standAt (wpAny_bind (wpAny_holding (thn (hs pins s2 σ H2 x y v ov iv u _ I2 r1 r2 r q2) fun _ s3 ⟨H3, I3, q3⟩ => ?_))))
  exact wpAny_release ⟨σ, H3, I3, q3⟩
def tAsg (te : TE) (g : TG) : TS := fun D σ H => te σ H fun x H1 => g x σ H1 D.nx
theorem ps_asg {tg e : Expr} {te : TE} {g : TG} (he : PE X e te) (hg : PG X tg g) (hs : swapsWithSole [tg] e pos.line X.env = pure false := by rfl) (hw : swappedStores [tg] e X.env = pure none := by rfl)
    (h1 : (assignEach [tg] X.env).map (·.2) = [assign tg X.env] := by rfl) : PS X (.Assign [tg] e pos) (tAsg te g) := by
  intro pins s σ H D I h
  refine wpAny_Assign_stores (thn (he pins s σ H _ I h) fun v s1 ⟨x, H1, I1, r1, q1⟩ => ?_) hs hw
  rw [h1]
  exact thn (hg pins s1 σ H1 x v _ I1 r1 q1) fun _ s2 q => q
theorem ps_set {i : Nat} {x : Str} {e : Expr} {te : TE} {pos' : Pos} (hN : X.N.Nodup) (hi : X.N[i]? = some x) (hx : Loc X.env.scope x) (he : PE X e te) (hs : swapsWith e (some (.Name x pos')) pos.line X.env = pure false := by rfl) (hf : X.fn x = true ∨ X.env.scope.names.lookup x = some .local := by first | exact .inl rfl | exact .inr rfl | assumption) :
    PS X (.Assign [.Name x pos'] e pos) (tAsg te (gName i)) := by
  intro pins s σ H D I h
  refine wpAny_Assign_Name (thn (he pins s σ H _ I h) fun v s1 ⟨y, H1, I1, r1, q1⟩ => ?_) hs
  exact store_ok I1 hN hi hx r1 (fun s2 I2 => ⟨_, H1, I2, q1⟩) hf
end
section
variable {X : Cx} {pos : Pos}
end
structure It where
  go : Nat → Hp → Prop
  yld : Nat → Hp → V → Hp → Prop
  stop : Nat → Hp → Prop
def FpOk (X : Cx) (pins : List (Addr × Obj)) (H : Hp) (b : Addr) : Prop :=
  H b = none ∧ b ≠ X.env.locals ∧ b ∉ X.fs ∧ (b ∈ X.ex ∨ X.s₀.heap.objs.size ≤ b) ∧ (∀ x c, X.env.cells.lookup x = some c → c ≠ b) ∧ ∀ p ∈ X.pn ++ pins, p.1 ≠ b
theorem Inv.fpOk {X : Cx} {pins : List (Addr × Obj)} {σ : St} {H H' : Hp} {s : Shared} {b : Addr} (I : Inv X pins σ H s) (hb : s.heap.objs.size ≤ b) (hn : H' b = none) : FpOk X pins H' b := by
  refine ⟨hn, Nat.ne_of_gt (Nat.lt_of_lt_of_le I.lt hb), I.nofs hb, .inr (Nat.le_trans I.sz hb), fun x c e z => ?_, fun p hp z => ?_⟩
  · obtain ⟨v, q⟩ := I.cell x c e
    exact absurd (Nat.lt_of_lt_of_le q.lt (by rw [z]; exact hb)) (Nat.lt_irrefl _)
  · exact absurd (Nat.lt_of_lt_of_le (Heap.lt_size (I.pin p hp).1) (by rw [z]; exact hb)) (Nat.lt_irrefl _)
structure Turn (P : Program) (w : World) (K : PySem.W.Frag) (tg : Expr) (J : It) (fp : List Addr) (it : Addr) (tn : Nat → Heap → Prop) : Prop where
  mem : it ∈ fp
  obj : ∀ i h, tn i h → ∀ b ∈ fp, ∃ o, h.get? b = some o ∧ ∀ v, o.data ≠ .cell v
  keep : ∀ i h h', tn i h → (∀ b ∈ fp, ∀ o, h.get? b = some o → h'.get? b = some o) → tn i h'
  item : ∀ (X : Cx), X.prog = P → X.w = w → X.K = K → X.calm = true → ∀ (i : Nat) (pins : List (Addr × Obj)) (s : Shared) (σ : St) (H : Hp) (E : Value → Shared → Prop), Inv X pins σ H s → (∀ b ∈ fp, FpOk X pins H b) → tn i s.heap → J.go i H →
    wpAny (model P w) X.A (pyNext (.ref it)) (fun r s1 => ∃ u, r = some u ∧
      wpAny (model P w) X.A (letOwnedTupleGo tg (.ref it) u) (fun _ s2 => ∃ x H', Inv X pins σ H' s2 ∧ RelV x u ∧ J.yld i H x H' ∧ tn (i + 1) s2.heap ∧ ∀ b ∈ fp, H' b = none) E s1) E s
  done : ∀ (X : Cx), X.prog = P → X.w = w → X.K = K → X.calm = true → ∀ (i : Nat) (pins : List (Addr × Obj)) (s : Shared) (σ : St) (H : Hp) (E : Value → Shared → Prop), Inv X pins σ H s → (∀ b ∈ fp, FpOk X pins H b) → tn i s.heap → J.stop i H →
    wpAny (model P w) X.A (pyNext (.ref it)) (fun r s1 => r = none ∧ Inv X pins σ H s1) E s
  self : ∀ (A : Around) (i : Nat) (s : Shared) (Q : Value → Shared → Prop) (E : Value → Shared → Prop), tn i s.heap → Q (.ref it) s → wpAny (model P w) A (pyIter (.ref it)) Q E s
abbrev TI := St → Hp → (It → Hp → Prop) → Prop
def PIE (X : Cx) (pins : List (Addr × Obj)) (σ : St) (tg : Expr) (R : It → Hp → Prop) (itv : Value) (s2 : Shared) : Prop :=
  ∃ (it : Addr) (fp : List Addr) (tn : Nat → Heap → Prop) (J : It) (H' : Hp), itv = .ref it ∧ Inv X pins σ H' s2 ∧ Turn X.prog X.w X.K tg J fp it tn ∧ tn 0 s2.heap ∧ (∀ b ∈ fp, FpOk X pins H' b) ∧ R J H'
def PI (X : Cx) (tg iter : Expr) (wi : TI) : Prop :=
  ∀ (pins : List (Addr × Obj)) (s : Shared) (σ : St) (H : Hp) (R : It → Hp → Prop), Inv X pins σ H s → wi σ H R →
    wpAny (model X.prog X.w) X.A (eval iter X.env) (fun v s1 => wpAny (model X.prog X.w) X.A (pyIter v) (PIE X pins σ tg R) X.xe s1) X.xe s
theorem go_of {M : Model} {A : Around} {E : Value → Shared → Prop} {s : Shared} {tg : Expr} {it : Addr} {u : Value} {o : Obj} {n : String} {vs : Array Value} {Q : Unit → Shared → Prop} (ho : s.heap.get? it = some o) (hc : o.cls = .type n) (hd : o.data = .fields vs)
    (hn : ["enumerate", "zip", "dict_itemiterator", "dict_reverseitemiterator", "odict_iterator", "itertools.zip_longest", "itertools.pairwise"].contains n = false) (hQ : Q () s) : wpAny M A (letOwnedTupleGo tg (.ref it) u) Q E s := by
  unfold letOwnedTupleGo
  cases tg <;> first
    | exact wpAny_pure hQ
    | (cases u <;> first
        | exact wpAny_pure hQ
        | (refine wpAny_bind (wpAny_load ho ?_)
           rw [hc, hd]
           show wpAny M A (if (["enumerate", "zip", "dict_itemiterator", "dict_reverseitemiterator", "odict_iterator", "itertools.zip_longest", "itertools.pairwise"].contains n && vs[0]? == some (rawInt _)) = true then _ else _) Q E s
           rw [if_neg (by intro h; rw [hn, Bool.false_and] at h; cases h)]
           exact wpAny_pure hQ))
def Itl (K : PySem.W.Frag) (a : Addr) : It :=
  ⟨fun i H => ∃ xs x, SqL K H a xs ∧ xs[i]? = some x, fun i H x H' => H' = H ∧ ∀ xs, SqL K H a xs → xs[i]? = some x, fun i H => ∃ xs, SqL K H a xs ∧ xs.length ≤ i⟩
def Itt (K : PySem.W.Frag) (a : Addr) : It :=
  ⟨fun i H => ∃ xs x, SqT K H a xs ∧ xs[i]? = some x, fun i H x H' => H' = H ∧ ∀ xs, SqT K H a xs → xs[i]? = some x, fun i H => ∃ xs, SqT K H a xs ∧ xs.length ≤ i⟩
def Itr (lo : Int) (n : Nat) : It := ⟨fun i _ => i < n, fun i H x H' => H' = H ∧ x = .int (lo + i), fun i _ => n ≤ i⟩
theorem turn_list {P : Program} {w : World} {K : PySem.W.Frag} {tg : Expr} (a it : Addr) : Turn P w K tg (Itl K a) [it] it (fun i h => h.IsListIter it a i) where
  mem := by simp
  obj := fun i h st b hb => by
    have e : b = it := by simpa using hb
    subst e
    obtain ⟨o, e, c, d⟩ := st
    exact ⟨o, e, fun v z => by rw [d] at z; cases z⟩
  keep := fun i h h' st k => st.at fun o e => k it (by simp) o e
  item := by
    intro X hP hw hK hc i pins s σ H E I hf st hg
    subst hP hw hK
    obtain ⟨xs, x, hq, hx⟩ := hg
    obtain ⟨its, rv, p, hz⟩ := I.list hq
    obtain ⟨u, hu, ru⟩ := rv.get hx
    obtain ⟨f0, f1, f2, f3, f4, f5⟩ := hf it (by simp)
    refine wpAny_pyNext_list_item st p.isList (x := u) (by simpa using hu) fun h' st' sb => ?_
    have I1 : Inv X pins σ H { s with heap := h' } := I.turned (t' := s.toks) (fun b o hb e => (sb.2 b hb).trans e) f0 f1 f3 f4 f5
    obtain ⟨o, e, c, d⟩ := id st'
    exact ⟨u, rfl, go_of (s := { s with heap := h' }) e c d (by decide) ⟨x, H, I1, ru, ⟨rfl, fun ys hy => by rw [I.list_inj hy hq]; exact hx⟩, st', fun b hb => (hf b hb).1⟩⟩
  done := by
    intro X hP hw hK hc i pins s σ H E I hf st hg
    subst hP hw hK
    obtain ⟨xs, hq, hx⟩ := hg
    obtain ⟨its, rv, p, hz⟩ := I.list hq
    obtain ⟨f0, f1, f2, f3, f4, f5⟩ := hf it (by simp)
    have hl := rv.length
    exact wpAny_pyNext_list_end (I.ok.hd hc) st p.isList (by simp; omega) fun h' eb => ⟨rfl, I.turned (t' := s.toks) (fun b o hb e => eb b o hb e) f0 f1 f3 f4 f5⟩
  self := fun _ _ _ _ _ st h => wpAny_pyIter_listiter st h
theorem turn_tuple {P : Program} {w : World} {K : PySem.W.Frag} {tg : Expr} (a it : Addr) : Turn P w K tg (Itt K a) [it] it (fun i h => h.IsTupleIter it a i) where
  mem := by simp
  obj := fun i h st b hb => by
    have e : b = it := by simpa using hb
    subst e
    obtain ⟨o, e, c, d⟩ := st
    exact ⟨o, e, fun v z => by rw [d] at z; cases z⟩
  keep := fun i h h' st k => st.at fun o e => k it (by simp) o e
  item := by
    intro X hP hw hK hc i pins s σ H E I hf st hg
    subst hP hw hK
    obtain ⟨xs, x, hq, hx⟩ := hg
    obtain ⟨its, rv, p, hz⟩ := I.tuple hq
    obtain ⟨u, hu, ru⟩ := rv.get hx
    obtain ⟨f0, f1, f2, f3, f4, f5⟩ := hf it (by simp)
    refine wpAny_pyNext_tuple_item st (show s.heap.IsTuple a its.toArray from p) (x := u) (by simpa using hu) fun h' st' sb => ?_
    have I1 : Inv X pins σ H { s with heap := h' } := I.turned (t' := s.toks) (fun b o hb e => (sb.2 b hb).trans e) f0 f1 f3 f4 f5
    obtain ⟨o, e, c, d⟩ := id st'
    exact ⟨u, rfl, go_of (s := { s with heap := h' }) e c d (by decide) ⟨x, H, I1, ru, ⟨rfl, fun ys hy => by rw [I.tuple_inj hy hq]; exact hx⟩, st', fun b hb => (hf b hb).1⟩⟩
  done := by
    intro X hP hw hK hc i pins s σ H E I hf st hg
    subst hP hw hK
    obtain ⟨xs, hq, hx⟩ := hg
    obtain ⟨its, rv, p, hz⟩ := I.tuple hq
    obtain ⟨f0, f1, f2, f3, f4, f5⟩ := hf it (by simp)
    have hl := rv.length
    exact wpAny_pyNext_tuple_end (I.ok.hd hc) st (show s.heap.IsTuple a its.toArray from p) (by simp; omega) fun h' eb => ⟨rfl, I.turned (t' := s.toks) (fun b o hb e => eb b o hb e) f0 f1 f3 f4 f5⟩
  self := fun _ _ _ _ _ st h => wpAny_pyIter_tupleiter st h
theorem turn_range {P : Program} {w : World} {K : PySem.W.Frag} {tg : Expr} (it : Addr) (lo : Int) (n : Nat) : Turn P w K tg (Itr lo n) [it] it (fun i h => IsRangeIter h it (lo + (i : Nat) * 1) ((n : Int) - (i : Nat)) 1) where
  mem := by simp
  obj := fun i h st b hb => by
    have e : b = it := by simpa using hb
    subst e
    exact ⟨_, st, fun v z => by
      have z' : Data.fields _ = Data.cell v := z
      cases z'⟩
  keep := fun i h h' st k => k it (by simp) _ st
  item := by
    intro X hP hw hK hc i pins s σ H E I hf st hg
    subst hP hw hK
    obtain ⟨f0, f1, f2, f3, f4, f5⟩ := hf it (by simp)
    have W := Walks.range (prog := X.prog) (w := X.w) (I.ok.hd hc) it lo 1 n
    refine W.item i s _ _ hg st fun v h' tk hv st' kk => ?_
    obtain ⟨t, rfl⟩ := hv
    have I1 : Inv X pins σ H { s with heap := h', toks := tk } := I.turned (fun b o hb e => kk b o (by simpa using hb) e) f0 f1 f3 f4 f5
    refine ⟨_, rfl, go_of (s := { s with heap := h', toks := tk }) (n := "range_iterator") st' rfl rfl (by decide) ⟨.int (lo + i), H, I1, ⟨t, ?_⟩, ⟨rfl, rfl⟩, st', fun b hb => (hf b hb).1⟩⟩
    rw [Int.mul_one]
  done := by
    intro X hP hw hK hc i pins s σ H E I hf st hg
    subst hP hw hK
    obtain ⟨f0, f1, f2, f3, f4, f5⟩ := hf it (by simp)
    exact wpAny_pyNext_range_end (I.ok.hd hc) st (by have : n ≤ i := hg; omega) fun h' eb => ⟨rfl, I.turned (t' := s.toks) (fun b o hb e => eb b o hb e) f0 f1 f3 f4 f5⟩
  self := fun _ _ _ _ _ st h => wpAny_pyIter_rangeiter st h
end L2
namespace L2
open PySem PySem.Spec PyProof.Rows
section
variable {X : Cx} {tg : Expr}
def iList (K : PySem.W.Frag) (tl : TE) : TI := fun σ H R => tl σ H fun x H1 => ∃ a, x = .ref a ∧ (∃ xs, SqL K H1 a xs) ∧ R (Itl K a) H1
def iTup (K : PySem.W.Frag) (tl : TE) : TI := fun σ H R => tl σ H fun x H1 => ∃ a, x = .ref a ∧ (∃ xs, SqT K H1 a xs) ∧ R (Itt K a) H1
theorem pi_list {l : Expr} {tl : TE} (hl : PE X l tl) : PI X tg l (iList X.K tl) := by
  intro pins s σ H R I h
  refine thn (hl pins s σ H _ I h) fun v s1 ⟨x, H1, I1, r1, q1⟩ => ?_
  obtain ⟨a, e, ⟨xs, hq⟩, q⟩ := q1
  subst e
  cases r1
  obtain ⟨its, rv, p, hz⟩ := I1.list hq
  refine wpAny_pyIter_list p.isList ?_
  refine ⟨s1.heap.objs.size, [s1.heap.objs.size], _, _, H1, rfl, I1.kept (t' := s1.toks) fun b o e => Heap.get?_push_of_some _ e, turn_list a _, ⟨_, Heap.get?_push_size _ rfl, rfl, rfl⟩, fun b hb => ?_, q⟩
  have e : b = s1.heap.objs.size := by simpa using hb
  subst e
  exact I1.fpOk (Nat.le_refl _) (I1.hok.fresh (Nat.le_refl _))
theorem pi_tup {l : Expr} {tl : TE} (hl : PE X l tl) : PI X tg l (iTup X.K tl) := by
  intro pins s σ H R I h
  refine thn (hl pins s σ H _ I h) fun v s1 ⟨x, H1, I1, r1, q1⟩ => ?_
  obtain ⟨a, e, ⟨xs, hq⟩, q⟩ := q1
  subst e
  cases r1
  obtain ⟨its, rv, p, hz⟩ := I1.tuple hq
  refine wpAny_pyIter_tuple (show s1.heap.IsTuple a its.toArray from p) ?_
  refine ⟨s1.heap.objs.size, [s1.heap.objs.size], _, _, H1, rfl, I1.kept (t' := s1.toks) fun b o e => Heap.get?_push_of_some _ e, turn_tuple a _, ⟨_, Heap.get?_push_size _ rfl, rfl, rfl⟩, fun b hb => ?_, q⟩
  have e : b = s1.heap.objs.size := by simpa using hb
  subst e
  exact I1.fpOk (Nat.le_refl _) (I1.hok.fresh (Nat.le_refl _))
theorem range_it {pins : List (Addr × Obj)} {σ : St} {H : Hp} {s : Shared} {R : It → Hp → Prop} {E : Value → Shared → Prop} {lo hi : Int} {t u v : Tok} {tk : Nat} (I : Inv X pins σ H s) (h1 : -(2 ^ 62) ≤ lo) (h2 : lo < 2 ^ 62) (h3 : -(2 ^ 62) ≤ hi) (h4 : hi < 2 ^ 62)
    (q : R (Itr lo (hi - lo).toNat) H) : wpAny (model X.prog X.w) X.A (pyIter (.ref s.heap.objs.size)) (PIE X pins σ tg R) E { s with heap := s.heap.push { cls := .type "range", data := .fields #[.int lo t, .int hi u, .int 1 v] }, toks := tk } := by
  refine wpAny_pyIter_range (IsRange.new ..) (small_one h1 h2 h3 h4) ?_
  have I1 : Inv X pins σ H { s with heap := s.heap.push { cls := .type "range", data := .fields #[.int lo t, .int hi u, .int 1 v] }, toks := tk } := I.kept fun b o e => Heap.get?_push_of_some _ e
  refine ⟨(s.heap.push { cls := .type "range", data := .fields #[.int lo t, .int hi u, .int 1 v] }).objs.size, [(s.heap.push { cls := .type "range", data := .fields #[.int lo t, .int hi u, .int 1 v] }).objs.size], _, _, H, rfl,
    I1.kept (t' := tk) fun b o e => Heap.get?_push_of_some _ e, turn_range _ lo (hi - lo).toNat, ?_, fun b hb => ?_, q⟩
  · have e1 : lo + ((0 : Nat) : Int) * 1 = lo := by simp
    have e2 : (((hi - lo).toNat : Nat) : Int) - ((0 : Nat) : Int) = Builtin.Range.rangeSize lo hi 1 := by rw [rangeSize_one]; split <;> omega
    show IsRangeIter _ _ (lo + ((0 : Nat) : Int) * 1) ((((hi - lo).toNat : Nat) : Int) - ((0 : Nat) : Int)) 1
    rw [e1, e2]
    exact Heap.get?_push_size _ rfl
  · have e : b = (s.heap.push { cls := .type "range", data := .fields #[.int lo t, .int hi u, .int 1 v] }).objs.size := by simpa using hb
    subst e
    exact I1.fpOk (Nat.le_refl _) (I1.hok.fresh (Nat.le_refl _))
def iRng1 (ta : TA) : TI := fun σ H R => ta σ H fun vs H1 => ∃ j : Int, vs = [.int j] ∧ -(2 ^ 62) ≤ j ∧ j < 2 ^ 62 ∧ R (Itr 0 j.toNat) H1
theorem pi_range1 {a : Expr} {ta : TA} {p pos : Pos} (hg : Gl X "range") (hm : X.mg "range" = none) (ha : PA X [a] ta) (hs : starEach [a] X.env = [(false, eval a X.env)] := by rfl) : PI X tg (.Call (.Name "range" p) [a] [] pos) (iRng1 ta) := by
  intro pins s σ H R I h
  refine Call_ (ld_blt I hg hm boot_range (PyProof.Rows.callWith_type1 (thn (ha pos pins s σ H _ I h) fun us s1 ⟨vs, H1, I1, r1, q1⟩ => ?_) hs rfl))
  obtain ⟨j, e, q1, q2, q⟩ := q1
  subst e
  cases r1 with
  | cons r rr =>
    cases rr
    obtain ⟨t, rfl⟩ := r
    exact call_range_1 (range_it I1 (by omega) (by omega) q1 q2 (by simpa using q))
def tFor (wi : TI) (g : TG) (tb : TS) : TS := fun D σ H => wi σ H fun J H1 => ∃ W : Nat → Nat → St → Hp → Prop, (∃ m, W 0 m σ H1) ∧ ∀ i m σ H, W i m σ H →
  (J.stop i H ∧ D.nx σ H) ∨ (J.go i H ∧ ∃ N : St → Hp → Prop, (∀ σ' H', N σ' H' → ∃ m', m' < m ∧ W (i + 1) m' σ' H') ∧ ∀ x H', J.yld i H x H' → g x σ H' fun σ2 H2 => tb { D with nx := N, ct := N, bk := D.nx } σ2 H2)
def pinsAt (fp : List Addr) (h : Heap) : List (Addr × Obj) := fp.filterMap fun b => (h.get? b).map fun o => (b, o)
theorem mem_pinsAt {fp : List Addr} {h : Heap} {b : Addr} {o : Obj} (hb : b ∈ fp) (e : h.get? b = some o) : (b, o) ∈ pinsAt fp h := List.mem_filterMap.mpr ⟨b, hb, by rw [e]; rfl⟩
theorem of_pinsAt {fp : List Addr} {h : Heap} {p : Addr × Obj} (hp : p ∈ pinsAt fp h) : p.1 ∈ fp ∧ h.get? p.1 = some p.2 := by
  obtain ⟨b, hb, e⟩ := List.mem_filterMap.mp hp
  cases q : h.get? b with
  | none => rw [q] at e; cases e
  | some o =>
    rw [q] at e
    have e' : (b, o) = p := Option.some.inj e
    subst e'
    exact ⟨hb, q⟩
theorem Inv.pinned {pins : List (Addr × Obj)} {σ : St} {H : Hp} {s : Shared} {fp : List Addr} (I : Inv X pins σ H s) (hf : ∀ b ∈ fp, FpOk X pins H b) (ho : ∀ b ∈ fp, ∃ o, s.heap.get? b = some o ∧ ∀ v, o.data ≠ .cell v) : Inv X (pins ++ pinsAt fp s.heap) σ H s :=
  I.pins_of fun p hp => (List.mem_append.mp hp).elim (fun z => I.pin p (List.mem_append_right _ z)) fun z => by
    obtain ⟨hb, e⟩ := of_pinsAt z
    obtain ⟨f0, f1, f2, _⟩ := hf p.1 hb
    obtain ⟨o, e', d⟩ := ho p.1 hb
    rw [e] at e'; cases e'
    exact ⟨e, f0, f1, f2, d⟩
theorem Inv.unpinned {pins pl : List (Addr × Obj)} {σ : St} {H : Hp} {s : Shared} (I : Inv X (pins ++ pl) σ H s) : Inv X pins σ H s := I.pins_of fun p hp => I.pin p (List.mem_append_right _ (List.mem_append_left _ hp))
theorem ps_for {iter : Expr} {body : List Stmt} {wi : TI} {g : TG} {tb : TS} {pos : Pos} (hp : PassesOwn (model X.prog X.w) X.A X.env X.xe) (hc : X.calm = true) (hi : PI X tg iter wi) (hg : PG X tg g) (hb : PSs X body tb)
    (hs : ∀ x, foldedSetIterable iter X.env x = pure x := by intro _; rfl) : PS X (.For tg iter body [] pos) (tFor wi g tb) := by
  intro pins s σ H D I h
  refine wpAny_For (thn (hi pins s σ H _ I h) fun v s1 h1 => thn h1 fun itv s2 h2 => ?_) hs
  obtain ⟨it, fp, tn, J, H2, e, I2, T, st2, f2, W, ⟨m0, w0⟩, turn⟩ := h2
  subst e
  have stat : ∀ {H' : Hp}, (∀ b ∈ fp, H' b = none) → ∀ b ∈ fp, FpOk X pins H' b := fun hn b hb => ⟨hn b hb, (f2 b hb).2⟩
  refine codeAny_forLoop_any (fun n s' => ∃ i σ' H', Inv X pins σ' H' s' ∧ tn i s'.heap ∧ (∀ b ∈ fp, H' b = none) ∧ W i n σ' H') ?_ m0 ⟨0, σ, H2, I2, st2, fun b hb => (f2 b hb).1, w0⟩
  rintro n s3 ⟨i, σ3, H3, I3, st3, fr3, w3⟩
  rcases turn i n σ3 H3 w3 with ⟨stop, qn⟩ | ⟨go, N, hN, step⟩
  · refine wpAny_passesOwn hp (thn (T.done X rfl rfl rfl hc i pins s3 σ3 H3 X.xe I3 (stat fr3) st3 stop) fun r s4 ⟨hr, I4⟩ => ?_)
    subst hr
    exact wpAny_execs_nil ⟨σ3, H3, I4, qn⟩
  · refine wpAny_passesOwn hp (thn (T.item X rfl rfl rfl hc i pins s3 σ3 H3 X.xe I3 (stat fr3) st3 go) fun r s4 ⟨u, hr, h4⟩ => ?_)
    subst hr
    refine wpAny_passesOwn hp (thn h4 fun _ s5 ⟨x, H5, I5, r5, y5, st5, fr5⟩ => ?_)
    have I5' := I5.pinned (stat fr5) (T.obj _ _ st5)
    refine wpAny_passesOwn hp (thn (hg _ s5 σ3 H5 x u _ I5' r5 (step x H5 y5)) fun _ s6 ⟨σ6, H6, I6, q6⟩ => ?_)
    refine wpAny_passesOwn hp (thn (hb _ s6 σ6 H6 _ I6 q6) fun f s7 q7 => ?_)
    have again : ∀ {σ7 : St} {H7 : Hp}, Inv X (pins ++ pinsAt fp s5.heap) σ7 H7 s7 → N σ7 H7 → ∃ m, m < n ∧ ∃ i σ' H', Inv X pins σ' H' s7 ∧ tn i s7.heap ∧ (∀ b ∈ fp, H' b = none) ∧ W i m σ' H' := fun {σ7 H7} I7 n7 => by
      obtain ⟨m', hm, w7⟩ := hN σ7 H7 n7
      refine ⟨m', hm, i + 1, σ7, H7, I7.unpinned, T.keep _ _ _ st5 fun b hb o e => (I7.pin (b, o) (List.mem_append_right _ (List.mem_append_right _ (mem_pinsAt hb e)))).1, fun b hb => ?_, w7⟩
      obtain ⟨o, e, d⟩ := T.obj _ _ st5 b hb
      exact (I7.pin (b, o) (List.mem_append_right _ (List.mem_append_right _ (mem_pinsAt hb e)))).2.1
    cases f with
    | next => obtain ⟨σ7, H7, I7, n7⟩ := q7; exact again I7 n7
    | cont => obtain ⟨σ7, H7, I7, n7⟩ := q7; exact again I7 n7
    | brk => obtain ⟨σ7, H7, I7, q7⟩ := q7; exact ⟨σ7, H7, I7.unpinned, q7⟩
    | ret v => obtain ⟨x7, σ7, H7, I7, r7, q7⟩ := q7; exact ⟨x7, σ7, H7, I7.unpinned, r7, q7⟩
end
theorem for_list {K : PySem.W.Frag} {a : Addr} {xs : List V} {g : TG} {tb : TS} {D : Ends} {σ : St} {H : Hp} (Pv : Nat → St → Hp → Prop) (h0 : Pv 0 σ H) (hl : ∀ i σ H, i ≤ xs.length → Pv i σ H → SqL K H a xs)
    (hs : ∀ i x σ H, xs[i]? = some x → Pv i σ H → g x σ H fun σ2 H2 => tb { D with nx := Pv (i + 1), ct := Pv (i + 1), bk := D.nx } σ2 H2) (hd : ∀ σ H, Pv xs.length σ H → D.nx σ H) :
    ∃ W : Nat → Nat → St → Hp → Prop, (∃ m, W 0 m σ H) ∧ ∀ i m σ H, W i m σ H →
      ((Itl K a).stop i H ∧ D.nx σ H) ∨ ((Itl K a).go i H ∧ ∃ N : St → Hp → Prop, (∀ σ' H', N σ' H' → ∃ m', m' < m ∧ W (i + 1) m' σ' H') ∧ ∀ x H', (Itl K a).yld i H x H' → g x σ H' fun σ2 H2 => tb { D with nx := N, ct := N, bk := D.nx } σ2 H2) := by
  refine ⟨fun i m σ H => m = xs.length - i ∧ i ≤ xs.length ∧ Pv i σ H, ⟨xs.length, by simp, Nat.zero_le _, h0⟩, ?_⟩
  rintro i m σ H ⟨rfl, hi, p⟩
  have q := hl i σ H hi p
  by_cases hlt : i < xs.length
  · refine .inr ⟨⟨xs, xs[i], q, by simp [hlt]⟩, Pv (i + 1), fun σ' H' p' => ⟨xs.length - (i + 1), by omega, rfl, hlt, p'⟩, fun x H' y => ?_⟩
    obtain ⟨e, y⟩ := y
    subst e
    exact hs i x σ _ (y xs q) p
  · have e : i = xs.length := by omega
    subst e
    exact .inl ⟨⟨xs, q, Nat.le_refl _⟩, hd σ H p⟩
theorem for_tup {K : PySem.W.Frag} {a : Addr} {xs : List V} {g : TG} {tb : TS} {D : Ends} {σ : St} {H : Hp} (Pv : Nat → St → Hp → Prop) (h0 : Pv 0 σ H) (hl : ∀ i σ H, i ≤ xs.length → Pv i σ H → SqT K H a xs)
    (hs : ∀ i x σ H, xs[i]? = some x → Pv i σ H → g x σ H fun σ2 H2 => tb { D with nx := Pv (i + 1), ct := Pv (i + 1), bk := D.nx } σ2 H2) (hd : ∀ σ H, Pv xs.length σ H → D.nx σ H) :
    ∃ W : Nat → Nat → St → Hp → Prop, (∃ m, W 0 m σ H) ∧ ∀ i m σ H, W i m σ H →
      ((Itt K a).stop i H ∧ D.nx σ H) ∨ ((Itt K a).go i H ∧ ∃ N : St → Hp → Prop, (∀ σ' H', N σ' H' → ∃ m', m' < m ∧ W (i + 1) m' σ' H') ∧ ∀ x H', (Itt K a).yld i H x H' → g x σ H' fun σ2 H2 => tb { D with nx := N, ct := N, bk := D.nx } σ2 H2) := by
  refine ⟨fun i m σ H => m = xs.length - i ∧ i ≤ xs.length ∧ Pv i σ H, ⟨xs.length, by simp, Nat.zero_le _, h0⟩, ?_⟩
  rintro i m σ H ⟨rfl, hi, p⟩
  have q := hl i σ H hi p
  by_cases hlt : i < xs.length
  · refine .inr ⟨⟨xs, xs[i], q, by simp [hlt]⟩, Pv (i + 1), fun σ' H' p' => ⟨xs.length - (i + 1), by omega, rfl, hlt, p'⟩, fun x H' y => ?_⟩
    obtain ⟨e, y⟩ := y
    subst e
    exact hs i x σ _ (y xs q) p
  · have e : i = xs.length := by omega
    subst e
    exact .inl ⟨⟨xs, q, Nat.le_refl _⟩, hd σ H p⟩
theorem for_range {lo : Int} {n : Nat} {g : TG} {tb : TS} {D : Ends} {σ : St} {H : Hp} (Pv : Nat → St → Hp → Prop) (h0 : Pv 0 σ H)
    (hs : ∀ i σ H, i < n → Pv i σ H → g (.int (lo + i)) σ H fun σ2 H2 => tb { D with nx := Pv (i + 1), ct := Pv (i + 1), bk := D.nx } σ2 H2) (hd : ∀ σ H, Pv n σ H → D.nx σ H) :
    ∃ W : Nat → Nat → St → Hp → Prop, (∃ m, W 0 m σ H) ∧ ∀ i m σ H, W i m σ H →
      ((Itr lo n).stop i H ∧ D.nx σ H) ∨ ((Itr lo n).go i H ∧ ∃ N : St → Hp → Prop, (∀ σ' H', N σ' H' → ∃ m', m' < m ∧ W (i + 1) m' σ' H') ∧ ∀ x H', (Itr lo n).yld i H x H' → g x σ H' fun σ2 H2 => tb { D with nx := N, ct := N, bk := D.nx } σ2 H2) := by
  refine ⟨fun i m σ H => m = n - i ∧ i ≤ n ∧ Pv i σ H, ⟨n, by simp, Nat.zero_le _, h0⟩, ?_⟩
  rintro i m σ H ⟨rfl, hi, p⟩
  by_cases hlt : i < n
  · refine .inr ⟨hlt, Pv (i + 1), fun σ' H' p' => ⟨n - (i + 1), by omega, rfl, hlt, p'⟩, fun x H' y => ?_⟩
    obtain ⟨e, y⟩ := y
    subst e y
    exact hs i σ _ hlt p
  · have e : i = n := by omega
    subst e
    exact .inl ⟨Nat.le_refl _, hd σ H p⟩
end L2
namespace L2
open PySem PySem.Spec PyProof.Rows
abbrev R2 := V → V → Hp → VK → Prop
def OpR (X : Cx) (f : Value → Value → Sem Value) (r : R2) : Prop :=
  ∀ (pins : List (Addr × Obj)) (s : Shared) (σ : St) (H : Hp) (x y : V) (v u : Value) (Q : VK), Inv X pins σ H s → RelV x v → RelV y u → r x y H Q →
    wpAny (model X.prog X.w) X.A (f v u) (EP X pins σ Q) X.xe s
def CallR (X : Cx) (f : Value) (r : List V → Hp → VK → Prop) : Prop :=
  ∀ (pins : List (Addr × Obj)) (s : Shared) (σ : St) (H : Hp) (xs : List V) (us : List Value) (Q : VK), Inv X pins σ H s → Vals xs us → r xs H Q →
    wpAny (model X.prog X.w) X.A (call f us) (EP X pins σ Q) X.xe s
def tOp (r : R2) (ta tb : TE) : TE := fun σ H Q => ta σ H fun x H1 => tb σ H1 fun y H2 => r x y H2 Q
def rI (C : Int → Int → Prop) (g : Int → Int → V) : R2 := fun x y H Q => ∃ i j, x = .int i ∧ y = .int j ∧ C i j ∧ Q (g i j) H
def rI0 (g : Int → Int → V) : R2 := fun x y H Q => ∃ i j, x = .int i ∧ y = .int j ∧ Q (g i j) H
section
variable {X : Cx} {a b c : Expr} {ta tb tc : TE} {pos : Pos}
theorem binT (ha : PE X a ta) (hb : PE X b tb) {pins : List (Addr × Obj)} {s : Shared} {σ : St} {H : Hp} {R : V → V → Hp → Prop} (I : Inv X pins σ H s)
    (h : ta σ H fun x H1 => tb σ H1 fun y H2 => R x y H2) {Q : Value → Shared → Prop} {f : Value → Value → Sem Value}
    (hf : ∀ v u s2 x y H2, Inv X pins σ H2 s2 → RelV x v → RelV y u → R x y H2 → wpAny (model X.prog X.w) X.A (f v u) Q X.xe s2) :
    wpAny (model X.prog X.w) X.A (eval a X.env) (fun v s₁ => wpAny (model X.prog X.w) X.A (eval b X.env) (fun u s₂ => wpAny (model X.prog X.w) X.A (f v u) Q X.xe s₂) X.xe s₁) X.xe s := by
  refine thn (ha pins s σ H _ I h) fun v s1 ⟨x, H1, I1, r1, q1⟩ => ?_
  refine thn (hb pins s1 σ H1 _ I1 q1) fun u s2 ⟨y, H2, I2, r2, q2⟩ => ?_
  exact hf v u s2 x y H2 I2 r1 r2 q2
theorem pe_op {op : Operator} {r : R2} (ho : OpR X (binaryOp op) r) (ha : PE X a ta) (hb : PE X b tb) : PE X (.BinOp a op b pos) (tOp r ta tb) := by
  intro pins s σ H Q I h
  exact wpAny_BinOp (binT ha hb I h fun v u s2 x y H2 I2 rx ry q => ho pins s2 σ H2 x y v u Q I2 rx ry q)
theorem opI {f : Value → Value → Sem Value} {C : Int → Int → Prop} {g : Int → Int → Int}
    (rule : ∀ (i j : Int) (t u : Tok) (s : Shared) (Q : Value → Shared → Prop) (E : Value → Shared → Prop), C i j → Q (.int (g i j) s.toks) { s with toks := s.toks + 1 } → wpAny (model X.prog X.w) X.A (f (.int i t) (.int j u)) Q E s) :
    OpR X f (rI C fun i j => .int (g i j)) := by
  intro pins s σ H x y v u Q I rx ry h
  obtain ⟨i, j, rfl, rfl, hc, q⟩ := h
  obtain ⟨t, rfl⟩ := rx
  obtain ⟨t', rfl⟩ := ry
  exact rule i j t t' s _ _ hc ⟨.int (g i j), H, I.tok _, ⟨_, rfl⟩, q⟩
theorem opI0 {f : Value → Value → Sem Value} {g : Int → Int → Int}
    (rule : ∀ (i j : Int) (t u : Tok) (s : Shared) (Q : Value → Shared → Prop) (E : Value → Shared → Prop), Q (.int (g i j) s.toks) { s with toks := s.toks + 1 } → wpAny (model X.prog X.w) X.A (f (.int i t) (.int j u)) Q E s) :
    OpR X f (rI0 fun i j => .int (g i j)) := by
  intro pins s σ H x y v u Q I rx ry h
  obtain ⟨i, j, rfl, rfl, q⟩ := h
  obtain ⟨t, rfl⟩ := rx
  obtain ⟨t', rfl⟩ := ry
  exact rule i j t t' s _ _ ⟨.int (g i j), H, I.tok _, ⟨_, rfl⟩, q⟩
theorem opB0 {f : Value → Value → Sem Value} {g : Int → Int → Bool}
    (rule : ∀ (i j : Int) (t u : Tok) (s : Shared) (Q : Value → Shared → Prop) (E : Value → Shared → Prop), Q (.bool (g i j)) s → wpAny (model X.prog X.w) X.A (f (.int i t) (.int j u)) Q E s) :
    OpR X f (rI0 fun i j => .bl (g i j)) := by
  intro pins s σ H x y v u Q I rx ry h
  obtain ⟨i, j, rfl, rfl, q⟩ := h
  obtain ⟨t, rfl⟩ := rx
  obtain ⟨t', rfl⟩ := ry
  exact rule i j t t' s _ _ ⟨.bl (g i j), H, I, rfl, q⟩
def CDiv (i j : Int) : Prop := 0 < j ∧ j < 1073741824
def CPow (i j : Int) : Prop := 0 ≤ j ∧ j ≤ 1000000 ∧ i.natAbs < 2 ^ 64
def CMul (i j : Int) : Prop := (-(2 ^ 64) < i ∧ i < 2 ^ 64) ∨ (-(2 ^ 64) < j ∧ j < 2 ^ 64)
theorem CMul.ok {i j : Int} (h : CMul i j) : IntMulOk i j := by
  rcases h with ⟨h1, h2⟩ | ⟨h1, h2⟩
  · exact .of_left (intBits_le_64 h1 h2)
  · exact .of_right (intBits_le_64 h1 h2)
theorem two_pow_nn (k : Nat) : (0 : Int) ≤ 2 ^ k := by
  rw [two_pow_cast]
  exact Int.natCast_nonneg _
theorem op_add : OpR X (binaryOp .Add) (rI0 fun i j => .int (i + j)) := opI0 fun _ _ _ _ _ _ _ q => add_int q
theorem op_sub : OpR X (binaryOp .Sub) (rI0 fun i j => .int (i - j)) := opI0 fun _ _ _ _ _ _ _ q => sub_int q
theorem op_mul : OpR X (binaryOp .Mult) (rI CMul fun i j => .int (i * j)) := opI fun _ _ _ _ _ _ _ hc q => mul_int q hc.ok
theorem op_fdiv : OpR X (binaryOp .FloorDiv) (rI CDiv fun i j => .int (i / j)) := opI fun i j _ _ _ _ _ hc q => by
  have h1 : (0 : Int) < j := hc.1
  have h2 : j < 1073741824 := hc.2
  exact floordiv_int (by omega) (by rw [Int.fdiv_eq_ediv_of_nonneg i (by omega)]; exact q) (.inl (PyProof.noPylong_small (by omega)))
theorem op_mod : OpR X (binaryOp .Mod) (rI (fun _ j => 0 < j) fun i j => .int (i % j)) := opI fun i j _ _ _ _ _ hc q => by
  have h1 : (0 : Int) < j := hc
  exact mod_int' (by omega) (by rw [Int.fmod_eq_emod_of_nonneg i (by omega)]; exact q)
theorem op_pow : OpR X (binaryOp .Pow) (rI CPow fun i j => .int (i ^ j.toNat)) := opI fun _ _ _ _ _ _ _ hc q => pow_int_small hc.1 hc.2.1 hc.2.2 q
theorem op_shr : OpR X (binaryOp .RShift) (rI (fun _ j => 0 ≤ j) fun i j => .int (i / 2 ^ j.toNat)) := opI fun i j _ _ _ _ _ hc q =>
  rshift_int hc (by rw [Int.fdiv_eq_ediv_of_nonneg i (two_pow_nn _)]; exact q)
theorem op_and : OpR X (binaryOp .BitAnd) (rI0 fun i j => .int (Builtin.bitAnd i j)) := opI0 fun _ _ _ _ _ _ _ q => and_int q
theorem op_or : OpR X (binaryOp .BitOr) (rI0 fun i j => .int (Builtin.bitOr i j)) := opI0 fun _ _ _ _ _ _ _ q => or_int q
end
section
variable {X : Cx} {a b c : Expr} {ta tb tc : TE} {pos : Pos}
theorem fin_bl {pins : List (Addr × Obj)} {σ : St} {H : Hp} {s : Shared} {Q : VK} {k k' : Bool} (I : Inv X pins σ H s) (q : Q (.bl k) H) (e : k = k') : EP X pins σ Q (.bool k') s := by
  subst e
  exact ⟨.bl k, H, I, rfl, q⟩
theorem op_lt : OpR X (compareOp .Lt) (rI0 fun i j => .bl (decide (i < j))) := opB0 fun _ _ _ _ _ _ _ q => lt_int q
theorem op_gt : OpR X (compareOp .Gt) (rI0 fun i j => .bl (decide (j < i))) := opB0 fun _ _ _ _ _ _ _ q => gt_int q
theorem op_lt_str : OpR X (compareOp .Lt) (fun x y H Q => ∃ i j, x = .str i ∧ y = .str j ∧ Q (.bl (decide (i.cps.toList < j.cps.toList))) H) := by
  intro pins s σ H x y v u Q I rx ry h
  obtain ⟨i, j, rfl, rfl, q⟩ := h
  obtain ⟨t, rfl⟩ := rx
  obtain ⟨t', rfl⟩ := ry
  exact lt_str (fin_bl I q rfl)
theorem OpR.or {f : Value → Value → Sem Value} {r r' : R2} (h : OpR X f r) (h' : OpR X f r') : OpR X f (fun x y H Q => r x y H Q ∨ r' x y H Q) := by
  intro pins s σ H x y v u Q I rx ry q
  rcases q with q | q
  · exact h pins s σ H x y v u Q I rx ry q
  · exact h' pins s σ H x y v u Q I rx ry q
theorem nomark (b : Expr) {op : CmpOp} (h : op ≠ .In := by decide) (h2 : op ≠ .NotIn := by decide) : behindInMarks op b = false := by
  have e1 : (op == CmpOp.In) = false := by cases op <;> first | rfl | exact absurd rfl h
  have e2 : (op == CmpOp.NotIn) = false := by cases op <;> first | rfl | exact absurd rfl h2
  cases b <;> simp [behindInMarks, e1, e2]
theorem pe_cmpR {op : CmpOp} {r : R2} (ho : OpR X (compareOp op) r) (ha : PE X a ta) (hb : PE X b tb) (hm : behindInMarks op b = false) : PE X (.Compare a [op] [b] pos) (tOp r ta tb) := by
  intro pins s σ H Q I h
  exact wpAny_Compare1 (binT ha hb I h fun v u s2 x y H2 I2 rx ry q => ho pins s2 σ H2 x y v u Q I2 rx ry q) hm
def tTest (t : TE) : TT := fun σ H Q => t σ H fun x H' => ∃ k, x = .bl k ∧ Q k H'
theorem pt_cmpR {op : CmpOp} {r : R2} (ho : OpR X (compareOp op) r) (ha : PE X a ta) (hb : PE X b tb) (hm : behindInMarks op b = false) : PT X (.Compare a [op] [b] pos) (tTest (tOp r ta tb)) := by
  intro pins s σ H Q I h
  refine wpAny_isTrue_Compare1 (thn (ha pins s σ H _ I h) fun v s1 ⟨x, H1, I1, r1, q1⟩ => thn (hb pins s1 σ H1 _ I1 q1) fun u s2 ⟨y, H2, I2, r2, q2⟩ =>
    thn (ho pins s2 σ H2 x y v u _ I2 r1 r2 q2) fun c s3 ⟨z, H3, I3, r3, k, e, q3⟩ => ?_) hm
  subst e
  cases r3
  exact wpAny_truthy_bool ⟨H3, I3, q3⟩
theorem line63 : (sizeLine : Nat) < 2 ^ 63 := by rw [sizeLine_eq]; decide
theorem op_add_str : OpR X (binaryOp .Add) (fun x y H Q => ∃ i j, x = .str i ∧ y = .str j ∧ i.length + j.length ≤ sizeLine ∧ Q (.str (i ++ j)) H) := by
  intro pins s σ H x y v u Q I rx ry h
  obtain ⟨i, j, rfl, rfl, hz, q⟩ := h
  obtain ⟨t, rfl⟩ := rx
  obtain ⟨t', rfl⟩ := ry
  exact add_str (fun t' tk => ⟨.str (i ++ j), H, I.tok _, ⟨_, rfl⟩, q⟩) hz
theorem vals1 {x : V} {us : List Value} (r : Vals [x] us) : ∃ u, us = [u] ∧ RelV x u := by
  cases r with
  | cons r1 r2 => cases r2; exact ⟨_, rfl, r1⟩
theorem vals2 {x y : V} {us : List Value} (r : Vals [x, y] us) : ∃ u w', us = [u, w'] ∧ RelV x u ∧ RelV y w' := by
  cases r with
  | cons r1 r2 =>
    cases r2 with
    | cons r3 r4 => cases r4; exact ⟨_, _, rfl, r1, r3⟩
theorem call_max2 (hc : X.calm = true) : CallR X (.builtin "max") (fun xs H Q => ∃ i j, xs = [.int i, .int j] ∧ Q (.int (if j > i then j else i)) H) := by
  intro pins s σ H xs us Q I r h
  obtain ⟨i, j, rfl, q⟩ := h
  obtain ⟨u, w', rfl, ⟨t, rfl⟩, ⟨t', rfl⟩⟩ := vals2 r
  refine max_two_ints (I.ok.hd hc) fun h' tk k => ⟨_, H, I.kept k, ?_, q⟩
  by_cases hj : j > i
  · rw [if_pos hj, if_pos hj]; exact ⟨_, rfl⟩
  · rw [if_neg hj, if_neg hj]; exact ⟨_, rfl⟩
theorem call_min2 (hc : X.calm = true) : CallR X (.builtin "min") (fun xs H Q => ∃ i j, xs = [.int i, .int j] ∧ Q (.int (if j < i then j else i)) H) := by
  intro pins s σ H xs us Q I r h
  obtain ⟨i, j, rfl, q⟩ := h
  obtain ⟨u, w', rfl, ⟨t, rfl⟩, ⟨t', rfl⟩⟩ := vals2 r
  refine min_two_ints (I.ok.hd hc) fun h' tk k => ⟨_, H, I.kept k, ?_, q⟩
  by_cases hj : j < i
  · rw [if_pos hj, if_pos hj]; exact ⟨_, rfl⟩
  · rw [if_neg hj, if_neg hj]; exact ⟨_, rfl⟩
theorem call_str_int : CallR X (.type "str") (fun xs H Q => ∃ i, xs = [.int i] ∧ i.natAbs.log2 < 1920 ∧ Q (.str (toString i)) H) := by
  intro pins s σ H xs us Q I r h
  obtain ⟨i, rfl, hz, q⟩ := h
  obtain ⟨u, rfl, t, rfl⟩ := vals1 r
  exact PySem.P.str_of_int hz ⟨.str _, H, I.tok _, ⟨_, rfl⟩, q⟩
theorem call_ord : CallR X (.builtin "ord") (fun xs H Q => ∃ x, xs = [.str x] ∧ x.length = 1 ∧ Q (.int (x.cps.getD 0 0 : Nat)) H) := by
  intro pins s σ H xs us Q I r h
  obtain ⟨x, rfl, hz, q⟩ := h
  obtain ⟨u, rfl, t, rfl⟩ := vals1 r
  exact ord_of_one hz ⟨.int _, H, I.tok _, ⟨_, rfl⟩, q⟩
def LenV (K : PySem.W.Frag) (x : V) (H : Hp) (n : Nat) : Prop :=
  match x with
  | .str y => y.length ≤ sizeLine ∧ n = y.length
  | .byt y => y.size ≤ sizeLine ∧ n = y.size
  | .ref p => (∃ xs, SqL K H p xs ∧ n = xs.length) ∨ ∃ xs, SqT K H p xs ∧ n = xs.length
  | _ => False
theorem call_len : CallR X (.builtin "len") (fun xs H Q => ∃ x n, xs = [x] ∧ LenV X.K x H n ∧ Q (.int n) H) := by
  intro pins s σ H xs us Q I r h
  obtain ⟨x, n, rfl, e, q⟩ := h
  obtain ⟨u, rfl, rx⟩ := vals1 r
  have hl := line63
  have hs : sizeLine = 16777216 := sizeLine_eq
  cases x with
  | str y =>
    obtain ⟨t, rfl⟩ := rx
    obtain ⟨hy, e'⟩ : y.length ≤ sizeLine ∧ n = y.length := e
    subst e'
    exact len_str (by omega) ⟨.int _, H, I.tok _, ⟨_, rfl⟩, q⟩
  | byt y =>
    obtain ⟨t, rfl⟩ := rx
    obtain ⟨hy, e'⟩ : y.size ≤ sizeLine ∧ n = y.size := e
    subst e'
    exact PySem.W.len_bytes (by omega) ⟨.int _, H, I.tok _, ⟨_, rfl⟩, q⟩
  | ref p =>
    cases rx
    have e' : (∃ xs, SqL X.K H p xs ∧ n = xs.length) ∨ ∃ xs, SqT X.K H p xs ∧ n = xs.length := e
    rcases e' with ⟨xs, hx, e'⟩ | ⟨xs, hx, e'⟩
    · subst e'
      obtain ⟨its, r', pl, hz⟩ := I.list hx
      have hlen := r'.length
      exact Calls.call_len_list pl.isList (by simp only [List.size_toArray]; omega) ⟨.int xs.length, H, I.tok _, ⟨_, by simp only [List.size_toArray]; rw [hlen]⟩, q⟩
    · subst e'
      obtain ⟨its, r', pl, hz⟩ := I.tuple hx
      have hlen := r'.length
      exact len_tuple pl (by simp only [List.size_toArray]; omega) ⟨.int xs.length, H, I.tok _, ⟨_, by simp only [List.size_toArray]; rw [hlen]⟩, q⟩
  | _ => exact (show False from e).elim
end
end L2
namespace L2
open PySem PySem.Spec PyProof.Rows
structure ObjM (h : Heap) (x dx C : Addr) (mA : Str → Option Value) : Prop where
  obj : h.get? x = some (PySem.W.instObj C dx)
  ns : h.Ns1 dx mA
  ne : dx ≠ x
theorem lookIn_ns {h : Heap} {dx : Addr} {mA : Str → Option Value} (n : h.Ns1 dx mA) : ∃ od, h.get? dx = some od ∧ ∀ name, PySem.W.lookIn name od = some (mA name) := by
  obtain ⟨o, es, ep, ho, hd, hk, _, hm⟩ := n
  refine ⟨o, ho, fun name => ?_⟩
  have e := hm name
  unfold nsFind findBy at e
  rw [← Array.find?_toList] at e
  unfold PySem.W.lookIn
  rw [hd]
  dsimp only
  split
  · rename_i y q
    rw [q] at e
    exact congrArg some e
  · rename_i q
    rw [q] at e
    have a : es.toList.any (·.refKey) = false := by
      rw [List.any_eq_false]
      intro y hy
      obtain ⟨z, t, hkey⟩ := hk y (Array.mem_toList_iff.mp hy)
      simp [DictEntry.refKey, hkey]
    have a' : ¬ es.toList.any (·.refKey) = true := by rw [a]; exact Bool.false_ne_true
    rw [if_neg a']
    exact congrArg some e
theorem ObjM.look {h : Heap} {x dx C : Addr} {mA : Str → Option Value} (I : ObjM h x dx C mA) : ∃ od, PySem.W.InstAt h x (PySem.W.instObj C dx) C (some od) ∧ ∀ name, PySem.W.lookIn name od = some (mA name) :=
  let ⟨od, ho, hl⟩ := lookIn_ns I.ns
  ⟨od, ⟨I.obj, rfl, rfl, ho⟩, hl⟩
section
variable {prog : Program} {w : World} {A : Around} {E : Value → Shared → Prop} {s : Shared} {K : PySem.W.Frag} {x dx C f : Addr} {mA : Str → Option Value} {name : Str} {v : Value}
end
section
variable {P : Program} {w : World} {H H' : Hp} {h h' : Heap} {a C dx : Addr} {fs fs' : List (Str × V)}
theorem ins_get (hok : HOk P w H h) (e : H a = some (.ins C dx fs)) : ∃ mA, ObjM h a dx C mA ∧ (∀ f, RelO (fs.lookup f) (mA f)) ∧ PySem.Within mA (fs.map (·.1)) ∧ fs.length ≤ 1000 ∧ H dx = some (.own a) := by
  obtain ⟨d, z, ne, ob, mA, n, r, q⟩ := (show ObjOk P w H h a (.ins C dx fs) from hok a _ e)
  exact ⟨mA, ⟨ob, n, ne⟩, r, q, z, d⟩
end
structure Cls (K : PySem.W.Frag) (C : Addr) : Prop where
  pg : PySem.W.plainGet K C Str.empty = true
  hd : PySem.W.hasDictIn K C = true
  po : PySem.W.plainOver K C = true
  sa : PySem.W.findIn K (.ref C) "__setattr__" = some (some (.builtin "object.__setattr__"))
theorem Cls.get {K : PySem.W.Frag} {C : Addr} (c : Cls K C) (f : Str) : PySem.W.plainGet K C f = true := c.pg
structure Con (K : PySem.W.Frag) (C : Addr) (f : Str) (v : V) (u : Value) : Prop where
  at_ : PySem.W.findIn K (.ref C) f = some (some u)
  rel : RelV v u
  get : PySem.W.specialIn K u "__get__" = some none
  cp : PySem.W.copiedNames.contains f = false
structure Meth (K : PySem.W.Frag) (C : Addr) (m : Str) (f : Addr) : Prop where
  at_ : PySem.W.findIn K (.ref C) m = some (some (.ref f))
  fn : PySem.W.isFn K (.ref f) = true
  kp : PySem.W.keepIn K (.ref f) = true
section
variable {X : Cx} {pins : List (Addr × Obj)} {σ : St} {H : Hp} {s : Shared} {a C dx : Addr} {fs : List (Str × V)} {f : Str} {v : V} {A : Around} {E : Value → Shared → Prop}
theorem Inv.made (I : Inv X pins σ H s) : Inv X pins σ (upd (upd H s.heap.objs.size (.own (s.heap.objs.size + 1))) (s.heap.objs.size + 1) (.ins C s.heap.objs.size []))
    { s with heap := (s.heap.push PySem.W.emptyDict).push (PySem.W.instObj C s.heap.objs.size) } := by
  have e1 : (s.heap.push PySem.W.emptyDict).get? s.heap.objs.size = some PySem.W.emptyDict := Heap.get?_push_size s.heap rfl
  have e2 : ((s.heap.push PySem.W.emptyDict).push (PySem.W.instObj C s.heap.objs.size)).get? (s.heap.objs.size + 1) = some (PySem.W.instObj C s.heap.objs.size) := by
    have := Heap.get?_push_size (s.heap.push PySem.W.emptyDict) (o := PySem.W.instObj C s.heap.objs.size) rfl
    rwa [Heap.size_push] at this
  have e3 : (s.heap.push PySem.W.emptyDict).Ns s.heap.objs.size (fun _ => none) := ⟨PySem.W.emptyDict, #[], _, e1, rfl, (fun e he => absurd he (by simp)), fun _ => rfl⟩
  have I1 := I.laid (a := s.heap.objs.size) (o := .own (s.heap.objs.size + 1)) (h' := s.heap.push PySem.W.emptyDict) (t' := s.toks) (fun b u q => Heap.get?_push_of_some _ q) (Nat.le_refl _) ⟨_, e1⟩
  refine I1.laid (a := s.heap.objs.size + 1) (o := .ins C s.heap.objs.size []) (t' := s.toks) (fun b u q => Heap.get?_push_of_some _ q) (Nat.le_of_eq (Heap.size_push _ _)) ?_
  have ne : s.heap.objs.size ≠ s.heap.objs.size + 1 := Nat.ne_of_lt (Nat.lt_succ_self _)
  refine ⟨by rw [upd_ne ne, upd_same], Nat.zero_le _, ne, e2, fun _ => none, (Heap.Ns1.of_empty e3).at fun o q => Heap.get?_push_of_some _ q, fun _ => True.intro, fun y hy => absurd rfl hy⟩
end
section
variable {X : Cx} {o e value : Expr} {f : Str} {pos pos' tpos : Pos} {ta tv : TE}
end
section
variable {X : Cx} {pins : List (Addr × Obj)} {σ : St} {H : Hp} {s : Shared} {A : Around} {E : Value → Shared → Prop} {Q : Value → Shared → Prop} {c : Value} {b : Bool}
inductive TyOf (K : PySem.W.Frag) (H : Hp) : V → Value → Prop where
  | non : TyOf K H .non (.type "NoneType")
  | bl (x : Bool) : TyOf K H (.bl x) (.type "bool")
  | int (i : Int) : TyOf K H (.int i) (.type "int")
  | str (x : Str) : TyOf K H (.str x) (.type "str")
  | flt (x : UInt64) : TyOf K H (.flt x) (.type "float")
  | lst {a : Addr} {xs : List V} (e : H a = some (.lst xs)) : TyOf K H (.ref a) (.type "list")
  | frz {a : Addr} {o : Obj} {xs : List V} (e : H a = some (.frz o (.lst xs))) : TyOf K H (.ref a) (.type "list")
  | tup {a : Addr} {xs : List V} (e : H a = some (.tup xs)) : TyOf K H (.ref a) (.type "tuple")
  | dK {a : Addr} {kvs : List (Key × V)} (e : H a = some (.dK kvs)) : TyOf K H (.ref a) (.type "dict")
  | dT {a : Addr} {kvs : List (List Key × V)} (e : H a = some (.dT kvs)) : TyOf K H (.ref a) (.type "dict")
  | ins {a C dx : Addr} {fs : List (Str × V)} (e : H a = some (.ins C dx fs)) (cl : Cls K C) (ha : PySem.W.findIn K (.ref C) "__class__" = some (some (.builtin "object.__class__")))
      (hn : PySem.W.specialIn K (.builtin "object.__class__") "__get__" = some (some (.builtin "getset_descriptor.__get__"))) (htk : PySem.W.takesIn K (.builtin "object.__class__") = some true)
      (hm : PySem.W.mroIn K C (.type "object") = some true) : TyOf K H (.ref a) (.ref C)
theorem isinst_ok {x : V} {u t : Value} (I : Inv X pins σ H s) (rx : RelV x u) (ty : TyOf X.K H x t) (e : PySem.W.kitOne X.K t c = some b) (h : ∀ tk, Q (.bool b) { s with toks := tk }) :
    wpAny (model X.prog X.w) A (call (.builtin "isinstance") [u, c]) Q E s := by
  cases ty with
  | non => cases (show u = Value.none from rx); exact PySem.W.kia_one PySem.W.kitx_none I.kIn True.intro e (fun z => nomatch z) h
  | bl y => cases (show u = Value.bool y from rx); exact PySem.W.kia_one PySem.W.kitx_bool I.kIn True.intro e (fun z => nomatch z) h
  | int i => obtain ⟨t, q⟩ := (show ∃ t, u = Value.int i t from rx); cases q; exact PySem.W.kia_one PySem.W.kitx_int I.kIn True.intro e (fun z => nomatch z) h
  | str y => obtain ⟨t, q⟩ := (show ∃ t, u = Value.str y t from rx); cases q; exact PySem.W.kia_one PySem.W.kitx_str I.kIn True.intro e (fun z => nomatch z) h
  | flt y => obtain ⟨t, q⟩ := (show ∃ t, u = Value.float y t from rx); cases q; exact PySem.W.kia_one PySem.W.kitx_float I.kIn True.intro e (fun z => nomatch z) h
  | @lst a xs ea =>
    cases (show u = Value.ref a from rx)
    obtain ⟨_, _, n, _, h1⟩ := (show ObjOk X.prog X.w H s.heap a (.lst xs) from I.hok a _ ea)
    exact PySem.W.kia_one PySem.W.kitx_list I.kIn ⟨_, h1, rfl⟩ e (fun z => nomatch z) h
  | @frz a ob xs ea =>
    cases (show u = Value.ref a from rx)
    obtain ⟨_, _, _, n, _, h1⟩ := (show ObjOk X.prog X.w H s.heap a (.frz ob (.lst xs)) from I.hok a _ ea)
    exact PySem.W.kia_one PySem.W.kitx_list I.kIn ⟨_, h1, rfl⟩ e (fun z => nomatch z) h
  | @tup a xs ea =>
    cases (show u = Value.ref a from rx)
    obtain ⟨_, _, _, p⟩ := (show ObjOk X.prog X.w H s.heap a (.tup xs) from I.hok a _ ea)
    obtain ⟨o, h1, h2, _⟩ := p
    exact PySem.W.kia_one PySem.W.kitx_tuple I.kIn ⟨o, h1, h2⟩ e (fun z => nomatch z) h
  | @dK a kvs ea =>
    cases (show u = Value.ref a from rx)
    obtain ⟨_, _, vs, _, p⟩ := (show ObjOk X.prog X.w H s.heap a (.dK kvs) from I.hok a _ ea)
    obtain ⟨o, es, ep, h1, h2, _⟩ := p
    exact PySem.W.kia_one PySem.W.kitx_dict I.kIn ⟨o, h1, h2.1⟩ e (fun z => nomatch z) h
  | @dT a kvs ea =>
    cases (show u = Value.ref a from rx)
    obtain ⟨_, _, xs, _, o, es, ep, h1, h2, _⟩ := (show ObjOk X.prog X.w H s.heap a (.dT kvs) from I.hok a _ ea)
    exact PySem.W.kia_one PySem.W.kitx_dict I.kIn ⟨o, h1, h2.1⟩ e (fun z => nomatch z) h
  | @ins a C dx fs ea cl ha hn htk hm =>
    cases (show u = Value.ref a from rx)
    obtain ⟨mA, O, _⟩ := ins_get I.hok ea
    obtain ⟨od, J, _⟩ := O.look
    exact PySem.W.kia_one (PySem.W.kitx_own (cl.get _) cl.hd ha hn htk hm) I.kIn J e (fun z => nomatch z) h
end
end L2
namespace L2
open PySem PySem.Spec PyProof.Rows
structure Room (k : Nat) (A : Around) : Prop where
  hd : A.handled = none
  dp : A.depth + 3 * k + 5 < recursionLimit
  un : A.units + 16 * k + 200 < cLine
theorem Room.mono {j k : Nat} {A : Around} (r : Room k A) (h : j ≤ k) : Room j A := ⟨r.hd, by have := r.dp; omega, by have := r.un; omega⟩
theorem Room.deeper {k : Nat} {A : Around} (r : Room (k + 1) A) (env : Env) : Room k (A.deeper env) :=
  ⟨r.hd, by have := r.dp; show A.depth + 1 + 3 * k + 5 < _; omega, by have := r.un; show A.units + 3 + 16 * k + 200 < _; omega⟩
theorem Room.in1 {k : Nat} {A : Around} (r : Room (k + 1) A) : Room k A.in1 :=
  ⟨r.hd, by have := r.dp; show A.depth + 3 * k + 5 < _; omega, by have := r.un; show A.units + 1 + 16 * k + 200 < _; omega⟩
theorem Room.depth {k : Nat} {A : Around} (r : Room k A) : A.depth < recursionLimit := by have := r.dp; omega
theorem Room.units {k : Nat} {A : Around} (r : Room k A) : A.units + 64 < cLine := by have := r.un; omega
def tNil : TA := fun _ H Q => Q [] H
def tCons (ta : TE) (tr : TA) : TA := fun σ H Q => ta σ H fun x H1 => tr σ H1 fun xs H2 => Q (x :: xs) H2
section
variable {X : Cx} {e : Expr} {es : List Expr} {te : TE} {t : TA} {pos : Pos}
theorem pa_nil : PA X [] tNil := fun _ _ _ _ H Q I h => Calls.spliced_nil ⟨[], H, I, .nil, h⟩
theorem pa_cons (ha : PE X e te) (hr : PA X es t) (hs : starEach (e :: es) X.env = (false, eval e X.env) :: starEach es X.env := by rfl) : PA X (e :: es) (tCons te t) := by
  intro pos pins s σ H Q I h
  rw [hs]
  show wpAny _ _ (spliced ((false, eval e X.env) :: backTo pos (starEach es X.env))) _ _ s
  refine Calls.spliced_cons (thn (ha pins s σ H _ I h) fun u s1 ⟨x, H1, I1, r1, q1⟩ => ?_)
  exact thn (hr pos pins s1 σ H1 _ I1 q1) fun us s2 ⟨xs, H2, I2, r2, q2⟩ => ⟨x :: xs, H2, I2, .cons r1 r2, q2⟩
end
abbrev Sp := List V → Hp → VK → XK → Prop
abbrev CXT := List Env → Hp → Shared → XK → Value → Shared → Prop
structure Env0 (P : Program) (w : World) (K : PySem.W.Frag) (mg : Str → Option Value) (base : Heap) (A : Around) (outer : List Env) (s : Shared) (H : Hp) : Prop where
  frames : A.frames = some outer
  mod : Mod K mg base
  bs : ∀ b o, base.get? b = some o → s.heap.get? b = some o ∧ H b = none
  bsz : base.objs.size ≤ s.heap.objs.size
  funs : s.heap.FunFrames base outer
  frf : ∀ b ∈ frs outer, H b = none
  hok : HOk P w H s.heap
  bare : AllBare s.gens
def CE (outer : List Env) (P : Program) (w : World) (H : Hp) (s : Shared) (Q : VK) (u : Value) (s' : Shared) : Prop :=
  ∃ v H', s'.os = s.os ∧ AllBare s'.gens ∧ Un (frs outer) [] H H' s.heap s'.heap ∧ HOk P w H' s'.heap ∧ RelV v u ∧ Q v H'
def CR (CX : CXT) (outer : List Env) (P : Program) (w : World) (H : Hp) (s : Shared) (Q : VK) (E : XK) (r : Result) (s' : Shared) : Prop :=
  match r with
  | .ok (.ret u) => CE outer P w H s Q u s'
  | .ok _ => False
  | .error e => CX outer H s E e s'
structure FnOk (P : Program) (w : World) (K : PySem.W.Frag) (mg : Str → Option Value) (base : Heap) (CX : CXT) (k : Nat) (f : Addr) (fd : FuncData) (ps : List Str) (sp : Sp) : Prop where
  len : ∀ vs H Q E, sp vs H Q E → vs.length = ps.length
  run : ∀ (A : Around) (outer : List Env) (s : Shared) (H : Hp) (args : Args) (us : List Value) (vs : List V) (Q : VK) (E : XK), Room k A → Env0 P w K mg base A outer s H → BindsTo s fd args (ps.zip us) → Vals vs us → sp vs H Q E →
    codeAny (model P w) A (.call (.ref f) args) (CR CX outer P w H s Q E) s
theorem FnOk.mono {P : Program} {w : World} {K : PySem.W.Frag} {mg : Str → Option Value} {base : Heap} {CX : CXT} {j k : Nat} {f : Addr} {fd : FuncData} {ps : List Str} {sp : Sp} (F : FnOk P w K mg base CX j f fd ps sp) (h : j ≤ k) :
    FnOk P w K mg base CX k f fd ps sp := ⟨F.len, fun A outer s H args us vs Q E hr => F.run A outer s H args us vs Q E (hr.mono h)⟩
theorem FnOk.imp {P : Program} {w : World} {K : PySem.W.Frag} {mg : Str → Option Value} {base : Heap} {CX : CXT} {k : Nat} {f : Addr} {fd : FuncData} {ps : List Str} {sp sp' : Sp} (F : FnOk P w K mg base CX k f fd ps sp)
    (h : ∀ vs H Q E, sp' vs H Q E → sp vs H Q E) : FnOk P w K mg base CX k f fd ps sp' :=
  ⟨fun vs H Q E q => F.len vs H Q E (h _ _ _ _ q), fun A outer s H args us vs Q E hr he hb hv hs => F.run A outer s H args us vs Q E hr he hb hv (h _ _ _ _ hs)⟩
theorem Env0.in1 {P : Program} {w : World} {K : PySem.W.Frag} {mg : Str → Option Value} {base : Heap} {A : Around} {outer : List Env} {s : Shared} {H : Hp} (e : Env0 P w K mg base A outer s H) :
    Env0 P w K mg base A.in1 outer s H := ⟨e.frames, e.mod, e.bs, e.bsz, e.funs, e.frf, e.hok, e.bare⟩
section
variable {X : Cx} {pins : List (Addr × Obj)} {σ : St} {H : Hp} {s s' : Shared}
theorem Inv.env0 (I : Inv X pins σ H s) : Env0 X.prog X.w X.K X.mg X.base X.A X.stack s H :=
  ⟨I.ok.frames, I.ok.mod, I.bs, Nat.le_trans I.ok.bsz I.sz, I.stack, I.stkFree, I.hok, I.bare⟩
theorem Inv.after {Q : VK} {u : Value} (I : Inv X pins σ H s) (h : CE X.stack X.prog X.w H s Q u s') : EP X pins σ Q u s' := by
  obtain ⟨v, H', os, bare, un, hok, r, q⟩ := h
  obtain ⟨hh, g, d, t, os'⟩ := s'
  obtain rfl : os' = s.os := os
  exact ⟨v, H', I.call (h' := hh) (g' := g) (d' := d) (t' := t) (ch := []) un hok bare (fun b z => absurd z (by simp)), r, q⟩
end
def tCall (sp : Sp) (dvs : List V) (E : XK) (t : TA) : TE := fun σ H Q => t σ H fun vs H1 => sp (vs ++ dvs) H1 Q E
def Binds (K : PySem.W.Frag) (fd : FuncData) (ps : List Str) (ds : List Value) : Prop :=
  ∀ (s : Shared) (us : List Value), K.In s.heap → (us ++ ds).length = ps.length → BindsTo s fd ⟨us, []⟩ (ps.zip (us ++ ds))
theorem Binds.all {K : PySem.W.Frag} {fd : FuncData} {ps : List Str} (h : ∀ us : List Value, us.length = ps.length → bindArgs fd ⟨us, []⟩ = pure (ps.zip us)) : Binds K fd ps [] := fun s us _ hl => by
  rw [List.append_nil] at hl ⊢
  exact .of_eq (h us hl)
def Passes (CX : CXT) (X : Cx) (E : XK) : Prop := ∀ (pins : List (Addr × Obj)) (σ : St) (H : Hp) (s : Shared) (e : Value) (s' : Shared), Inv X pins σ H s → CX X.stack H s E e s' → X.xe e s'
section
variable {X : Cx} {CX : CXT} {k : Nat} {f C : Addr} {fd : FuncData} {ps : List Str} {sp : Sp} {dvs : List V} {ds : List Value} {E : XK} {x m : Str} {p pos apos : Pos} {e o : Expr} {es : List Expr} {ta : TE} {t : TA}
theorem run_fn {pins : List (Addr × Obj)} {σ : St} {H : Hp} {s : Shared} {Q : VK} {us : List Value} {vs : List V} (F : FnOk X.prog X.w X.K X.mg X.base CX k f fd ps sp) (hr : Room k X.A) (hb : Binds X.K fd ps ds) (hd : Vals dvs ds) (hx : Passes CX X E)
    (I : Inv X pins σ H s) (r : Vals vs us) (h : sp (vs ++ dvs) H Q E) : wpAny (model X.prog X.w) X.A (call (.ref f) us) (EP X pins σ Q) X.xe s := by
  have r2 : Vals (vs ++ dvs) (us ++ ds) := r.append hd
  have hl : (us ++ ds).length = ps.length := by rw [← r2.length]; exact F.len _ _ _ _ h
  refine wpAny_call (codeAny_mono (F.run X.A X.stack s H ⟨us, []⟩ (us ++ ds) (vs ++ dvs) Q E hr I.env0 (hb s us I.kIn hl) r2 h) fun r s' hq => ?_)
  cases r with
  | error e => exact hx pins σ H s e s' I hq
  | ok fl =>
    cases fl with
    | ret u => exact I.after hq
    | next => exact False.elim hq
    | brk => exact False.elim hq
    | cont => exact False.elim hq
theorem pe_call (F : FnOk X.prog X.w X.K X.mg X.base CX k f fd ps sp) (hr : Room k X.A) (hg : Gl X x) (hm : X.mg x = some (.ref f)) (hk : PySem.W.keepIn X.K (.ref f) = true) (hb : Binds X.K fd ps ds) (hd : Vals dvs ds) (hx : Passes CX X E)
    (ha : PA X (e :: es) t) (hdb : (x == ("__debug__" : Str)) = false := by decide) (he : starEach (e :: es) X.env = (false, eval e X.env) :: starEach es X.env := by rfl) (hpl : (backTo pos (starEach es X.env)).any (·.1) = false := by rfl) :
    PE X (.Call (.Name x p) (e :: es) [] pos) (tCall sp dvs E t) := by
  intro pins s σ H Q I h
  refine wpAny_Call_Name_kw (ld_glob I hg hm ?_ hdb)
  refine PySem.W.callWith_K (h₀ := X.base) I.ok.mod.kin hk (thn (ha pos pins s σ H _ I h) fun us s1 ⟨vs, H1, I1, r, q⟩ => ⟨I1.kIn, ?_⟩) he hpl
  exact run_fn F hr hb hd hx I1 r q
structure Mk (K : PySem.W.Frag) (C f : Addr) : Prop where
  makes : PySem.W.makesIn K C = true
  init : PySem.W.findIn K (.ref C) "__init__" = some (some (.ref f))
  fn : PySem.W.isFn K (.ref f) = true
  kp : PySem.W.keepIn K (.ref C) = true
end
section
variable {X : Cx} {CX : CXT} {k : Nat} {f C : Addr} {fd : FuncData} {ps ks : List Str} {sp : Sp} {E : XK} {x m : Str} {p pos apos kpos : Pos} {e o : Expr} {es : List Expr} {kws : List Keyword} {te ta : TE} {t tk : TA} {nm : Option Str}
structure KBinds (K : PySem.W.Frag) (fd : FuncData) (ps ks : List Str) (g : List Value → List Value → List Value) (gV : List V → List V → List V) : Prop where
  to : ∀ (s : Shared) (us ws : List Value), K.In s.heap → (g us ws).length = ps.length → BindsTo s fd ⟨us, ks.zip ws⟩ (ps.zip (g us ws))
  rel : ∀ {vs : List V} {us : List Value} {zs : List V} {ws : List Value}, Vals vs us → Vals zs ws → Vals (gV vs zs) (g us ws)
variable {g : List Value → List Value → List Value} {gV : List V → List V → List V}
end
structure FnScope (N P : List Str) (sc : Scope) : Prop where
  kind : sc.kind = .function
  co : sc.isCoroutine = false
  gen : sc.isGenerator = false
  nd : N.Nodup
  pre : N.take P.length = P
  par : ∀ x ∈ P, sc.names.lookup x = some .local ∨ sc.names.lookup x = some .cell
  nofree : ∀ y ∈ sc.names, y.2 ≠ .free
theorem bindL_out {kindOf : Str → Option NameKind} {x : Str} : ∀ {binds : List (Str × Value)} {m : Str → Option Value}, (∀ v, (x, v) ∉ binds) → bindL kindOf binds m x = m x
  | [], _, _ => rfl
  | (n, v) :: r, m, h => by
    unfold bindL
    rw [bindL_out fun w hw => h w (List.mem_cons_of_mem _ hw)]
    split
    · have : x ≠ n := by rintro rfl; exact h v List.mem_cons_self
      simp [this]
    · rfl
theorem bindC_out {kindOf : Str → Option NameKind} {x : Str} : ∀ {binds : List (Str × Value)} {m : Str → Option Value}, (∀ v, (x, v) ∉ binds) → bindC kindOf binds m x = m x
  | [], _, _ => rfl
  | (n, v) :: r, m, h => by
    unfold bindC
    rw [bindC_out fun w hw => h w (List.mem_cons_of_mem _ hw)]
    split
    · rfl
    · have : x ≠ n := by rintro rfl; exact h v List.mem_cons_self
      simp [this]
theorem bindL_get {kindOf : Str → Option NameKind} {x : Str} {v : Value} : ∀ {P : List Str} {vs : List Value} {i : Nat} {m : Str → Option Value}, P.Nodup → P[i]? = some x → vs[i]? = some v → kindOf x = some .local →
    bindL kindOf (P.zip vs) m x = some v
  | [], _, _, _, _, h, _, _ => by simp at h
  | _ :: _, [], _, _, _, _, h, _ => by simp at h
  | p :: P, w :: vs, 0, m, nd, h1, h2, hk => by
    simp at h1 h2; subst h1; subst h2
    show bindL kindOf ((p, w) :: P.zip vs) m p = _
    unfold bindL
    rw [bindL_out fun v hv => (List.nodup_cons.mp nd).1 (List.of_mem_zip hv).1, if_pos hk]
    simp
  | p :: P, w :: vs, i + 1, m, nd, h1, h2, hk => by
    show bindL kindOf ((p, w) :: P.zip vs) m x = _
    unfold bindL
    exact bindL_get (i := i) (List.nodup_cons.mp nd).2 (by simpa using h1) (by simpa using h2) hk
theorem bindC_get {kindOf : Str → Option NameKind} {x : Str} {v : Value} : ∀ {P : List Str} {vs : List Value} {i : Nat} {m : Str → Option Value}, P.Nodup → P[i]? = some x → vs[i]? = some v → kindOf x ≠ some .local →
    bindC kindOf (P.zip vs) m x = some v
  | [], _, _, _, _, h, _, _ => by simp at h
  | _ :: _, [], _, _, _, _, h, _ => by simp at h
  | p :: P, w :: vs, 0, m, nd, h1, h2, hk => by
    simp at h1 h2; subst h1; subst h2
    show bindC kindOf ((p, w) :: P.zip vs) m p = _
    unfold bindC
    rw [bindC_out fun v hv => (List.nodup_cons.mp nd).1 (List.of_mem_zip hv).1, if_neg hk]
    simp
  | p :: P, w :: vs, i + 1, m, nd, h1, h2, hk => by
    show bindC kindOf ((p, w) :: P.zip vs) m x = _
    unfold bindC
    exact bindC_get (i := i) (List.nodup_cons.mp nd).2 (by simpa using h1) (by simpa using h2) hk
def start (N : List Str) (vs : List V) : St := vs.map some ++ List.replicate (N.length - vs.length) none
def cxOf (CX : CXT) (P : Program) (w : World) (K : PySem.W.Frag) (mg : Str → Option Value) (base : Heap) (N : List Str) (qual : Str) (scope : Scope) (f : Addr) (cd : Value) (A : Around) (outer : List Env) (s : Shared) (H : Hp) (E : XK) : Cx where
  prog := P
  w := w
  K := K
  mg := mg
  base := base
  A := A.deeper (envOfC qual scope s.heap.objs.size f cd)
  N := N
  s₀ := s
  H₀ := H
  env := envOfC qual scope s.heap.objs.size f cd
  outer := outer
  stack := envOfC qual scope s.heap.objs.size f cd :: outer
  ex := []
  calm := true
  fn := fun _ => true
  pn := []
  xe := fun e s' => wpAny (model P w) (A.deeper (envOfC qual scope s.heap.objs.size f cd)) (leaving (envOfC qual scope s.heap.objs.size f cd) e) (fun _ s'' => CX outer H s E e s'') (fun e' s'' => CX outer H s E e' s'') s'
theorem cell_has {sc : Scope} {n : Nat} {x : Str} (h : sc.names.lookup x = some .cell) : ∃ c, (cellsFrom n sc.names []).lookup x = some c := by
  have q := PySem.W.cellsFrom_some sc.names n [] (.inl h)
  exact Option.isSome_iff_exists.mp q
theorem inv_start {CX : CXT} {P : Program} {w : World} {K : PySem.W.Frag} {mg : Str → Option Value} {base : Heap} {N ps : List Str} {qual : Str} {scope : Scope} {f : Addr} {cd : Value} {A : Around} {outer : List Env} {s s1 : Shared} {H : Hp} {E : XK} {us : List Value} {vs : List V}
    (S : FnScope N ps scope) (hd : A.handled = none) (e0 : Env0 P w K mg base A outer s H) (hl : vs.length = ps.length) (r : Vals vs us)
    (x : InCallC s s.heap.objs.size (bindL (envOfC qual scope s.heap.objs.size f cd).kindOf (ps.zip us) fun _ => none) (cellsFrom (s.heap.objs.size + 1) scope.names []) (bindC (envOfC qual scope s.heap.objs.size f cd).kindOf (ps.zip us) fun _ => none) s1) :
    Inv (cxOf CX P w K mg base N qual scope f cd A outer s H E) [] (start N vs) H s1 := by
  have hpl : ps.length ≤ N.length := by have := congrArg List.length S.pre; rw [List.length_take] at this; omega
  obtain ⟨h1, tk, rfl, hk⟩ := x.done
  have noA : ∀ b : Addr, b ∉ (cxOf CX P w K mg base N qual scope f cd A outer s H E).ex := fun b z => absurd (show b ∈ ([] : List Addr) from z) (by simp)
  refine ⟨⟨e0.mod, S.kind, rfl, rfl, Nat.le_refl _, fun y z c h1 h2 => ?_, fun y hy => ?_, fun y c _ h => ?_, fun _ => hd, Around.frames_deeper e0.frames, .inr ⟨rfl, rfl⟩, fun b z => absurd z (noA b), e0.bs, e0.bsz, fun b _ _ => noA b, fun b z => absurd z (noA b), e0.funs, e0.frf⟩,
    rfl, e0.bare, Un.kept hk, ⟨_, x.toInCall.ns, fun i y v h1 h2 h3 => ?_⟩, fun y c h => ⟨_, x.cell y c h⟩, e0.hok.fresh (Nat.le_refl _), fun y c h => ?_, fun p hp => absurd (show p ∈ ([] : List (Addr × Obj)) from hp) (by simp), e0.hok.kept hk, ?_⟩
  · exact name_of_addr x.apart (PySem.mem_of_lookup h1) (PySem.mem_of_lookup h2)
  · have hy : scope.names.lookup y = some .cell ∨ scope.names.lookup y = some .free := hy
    rcases hy with hy | hy
    · exact cell_has hy
    · exact absurd rfl (S.nofree _ (PySem.mem_of_lookup hy))
  · exact Nat.le_of_lt (x.above y c (PySem.mem_of_lookup h))
  · have hi : i < vs.length := by
      unfold start at h2
      by_cases hi : i < vs.length
      · exact hi
      · rw [List.getElem?_append_right (by simpa using hi)] at h2
        rw [List.getElem?_replicate] at h2
        split at h2 <;> cases h2
    have ha : vs[i]? = some v := by
      unfold start at h2
      rw [List.getElem?_append_left (by simpa using hi), List.getElem?_map] at h2
      cases e : vs[i]? with
      | none => rw [e] at h2; cases h2
      | some a => rw [e] at h2; cases h2; rfl
    obtain ⟨u, hu, rv⟩ := r.get ha
    have hp : ps[i]? = some y := by
      rw [← S.pre, List.getElem?_take_of_lt (by omega)]; exact h1
    have ndP : ps.Nodup := by rw [← S.pre]; exact S.nd.sublist (List.take_sublist _ _)
    refine ⟨u, rv, ?_⟩
    rcases S.par y (List.mem_of_getElem? hp) with k | k
    · exact .inl ⟨k, bindL_get ndP hp hu k⟩
    · obtain ⟨c, e⟩ := cell_has (n := s.heap.objs.size + 1) k
      refine .inr ⟨.inl k, c, e, ?_⟩
      have q := x.cell y c e
      rw [bindC_get ndP hp hu (by show scope.names.lookup y ≠ _; rw [k]; decide)] at q
      exact q
  · exact e0.hok.fresh (Nat.le_of_lt (x.above y c (PySem.mem_of_lookup h)))
  · unfold start
    show _ = N.length
    rw [List.length_append, List.length_map, List.length_replicate]
    omega
theorem fn_of {CX : CXT} {P : Program} {w : World} {K : PySem.W.Frag} {mg : Str → Option Value} {base : Heap} {k : Nat} {f : Addr} {name qual : Str} {params : Arguments} {body : List Stmt} {scope : Scope} {dV kV doc pm cdv ct oc : Value} {an od : Option Addr}
    {osl : Array (Option Value)} {N ps : List Str} {sp : Sp} (lk : K.lookup f = some ⟨oc, od, .func (PySem.W.fnOf name qual params body scope dV kV doc pm an cdv ct), osl⟩) (hcd : PySem.W.codeIn K cdv qual = true) (S : FnScope N ps scope)
    (len : ∀ vs H Q E, sp vs H Q E → vs.length = ps.length)
    (hbody : ∀ (A : Around) (outer : List Env) (s : Shared) (H : Hp) (vs : List V) (Q : VK) (E : XK), Room k (A.deeper (envOfC qual scope s.heap.objs.size f cdv)) → sp vs H Q E →
      ∃ t, PSs (cxOf CX P w K mg base N qual scope f cdv A outer s H E) body t ∧ t { nx := fun _ H' => Q .non H', rt := Q } (start N vs) H) :
    FnOk P w K mg base CX (k + 1) f (PySem.W.fnOf name qual params body scope dV kV doc pm an cdv ct) ps sp := by
  refine ⟨len, fun A outer s H args us vs Q E hr e0 hb r hsp => ?_⟩
  have hl := len _ _ _ _ hsp
  have KX : K.In s.heap := e0.mod.kin.keeps fun b o e => (e0.bs b o e).1
  have lim : s.heap.NoLimit := e0.mod.nolimit.keeps fun b o e => (e0.bs b o e).1
  have hkind : ∀ y ∈ ps.zip us, scope.names.lookup y.1 = some .local ∨ (scope.names.lookup y.1 = some .cell ∧ ((cellsFrom (s.heap.objs.size + 1) scope.names []).lookup y.1).isSome = true) := fun ⟨n, v⟩ hy => by
    rcases S.par n (List.of_mem_zip hy).1 with q | q
    · exact .inl q
    · exact .inr ⟨q, PySem.W.cellsFrom_some _ _ _ (.inl q)⟩
  refine codeAny_call_function hr.depth (KX _ _ lk) rfl S.co S.gen rfl (PySem.W.codeRec_of KX hcd) (hb _ _ _ _ ?_)
  refine wpAny_newFunctionEnv_cells S.kind hkind fun env he s1 x => ?_
  subst he
  refine ⟨lim.keeps x.toInCall.keep, codeAny_func ?_⟩
  obtain ⟨t, ht, hq⟩ := hbody A outer s H vs Q E (hr.deeper _) hsp
  have I : Inv (cxOf CX P w K mg base N qual scope f cdv A outer s H E) [] (start N vs) H s1 := inv_start S hr.hd e0 hl r x
  refine wpAny_mono (ht [] s1 (start N vs) H _ I hq) (fun fl s' hs => ?_) fun e s' hs => hs
  have fin : ∀ {σ' : St} {H' : Hp} {v : V} {u : Value}, Inv (cxOf CX P w K mg base N qual scope f cdv A outer s H E) [] σ' H' s' → RelV v u → Q v H' → CE outer P w H s Q u s' :=
    fun {σ' H' v u} J rv q => ⟨v, H', J.os, J.bare, J.base, J.hok, rv, q⟩
  cases fl with
  | ret u =>
    obtain ⟨v, σ', H', J, rv, q⟩ := hs
    exact fin J rv q
  | next =>
    obtain ⟨σ', H', J, q⟩ := hs
    exact fin (v := V.non) (u := Value.none) J rfl q
  | brk =>
    obtain ⟨_, _, _, q⟩ := hs
    exact False.elim q
  | cont =>
    obtain ⟨_, _, _, q⟩ := hs
    exact False.elim q
end L2
namespace L2
open PySem PySem.Spec PyProof.Rows
section
variable {X : Cx} {x : Str} {p pos : Pos} {e : Expr} {es : List Expr} {t : TA} {id T : String} {r : List V → Hp → VK → Prop}
def tCB (r : List V → Hp → VK → Prop) (t : TA) : TE := fun σ H Q => t σ H fun vs H1 => r vs H1 Q
theorem pe_callB (hc : CallR X (.builtin id) r) (hg : Gl X x) (hm : X.mg x = none) (hv : bootBuiltins x = some (.builtin id)) (ha : PA X (e :: es) t) (hn : x ≠ "__name__" := by decide) (hdb : (x == ("__debug__" : Str)) = false := by decide)
    (he : starEach (e :: es) X.env = (false, eval e X.env) :: starEach es X.env := by rfl) (hpl : (backTo pos (starEach es X.env)).any (·.1) = false := by rfl) : PE X (.Call (.Name x p) (e :: es) [] pos) (tCB r t) := by
  intro pins s σ H Q I h
  refine wpAny_Call_Name_kw (ld_blt I hg hm hv ?_ hn hdb)
  exact PyProof.Rows.callWith_builtin1 (thn (ha pos pins s σ H _ I h) fun us s1 ⟨vs, H1, I1, r1, q1⟩ => hc pins s1 σ H1 vs us Q I1 r1 q1) he hpl
theorem pe_callTy (hc : CallR X (.type T) r) (hg : Gl X x) (hm : X.mg x = none) (hv : bootBuiltins x = some (.type T)) (ha : PA X (e :: es) t) (hn : x ≠ "__name__" := by decide) (hdb : (x == ("__debug__" : Str)) = false := by decide)
    (he : starEach (e :: es) X.env = (false, eval e X.env) :: starEach es X.env := by rfl) (hpl : (backTo pos (starEach es X.env)).any (·.1) = false := by rfl) : PE X (.Call (.Name x p) (e :: es) [] pos) (tCB r t) := by
  intro pins s σ H Q I h
  refine wpAny_Call_Name_kw (ld_blt I hg hm hv ?_ hn hdb)
  exact PyProof.Rows.callWith_type1 (thn (ha pos pins s σ H _ I h) fun us s1 ⟨vs, H1, I1, r1, q1⟩ => hc pins s1 σ H1 vs us Q I1 r1 q1) he hpl
end
end L2
namespace HT
open PySem PyProof.Rows
section
open PySem.SeqAt
open PySem.AutoSeq1 (wpAny_loadPart')
open PySem.MeetsSeq PySem.MeetsSeq2 PySem.MeetsSeq3
end
section
variable {prog : Program} {w : World} {A : Around} {E : Value → Shared → Prop} {s : Shared}
theorem cat_tup {t b : Addr} {vs ws : List Value} {Q : Value → Shared → Prop} (ht : IsTup s.heap t vs.toArray) (hb : IsTup s.heap b ws.toArray) (hv : vs ≠ [])
    (h1 : ws = [] → Q (.ref t) s) (h2 : ws ≠ [] → Q (.ref s.heap.objs.size) { s with heap := s.heap.push { cls := .type "tuple", data := .seq (vs ++ ws).toArray } })
    (hsz : vs.length + ws.length ≤ sizeLine) : wpAny (model prog w) A (binaryOp .Add (.ref t) (.ref b)) Q E s := by
  obtain ⟨⟨cls, dd, data, sl⟩, ho, hc, n, hd⟩ := id ht
  obtain ⟨⟨cls2, dd2, data2, sl2⟩, ho2, hc2, n2, hd2⟩ := id hb
  simp only at hc hd hc2 hd2
  subst hc hd hc2 hd2
  have e : vs.toArray ++ ws.toArray = (vs ++ ws).toArray := by simp
  by_cases hw : ws = []
  · exact concat_meets ⟨_, ho, rfl⟩ ⟨_, ho2, rfl⟩ noFill_tuple_add seq_tuple_add PySem.F.slot_tuple_add PySem.F.entry_tuple_add (PySem.F.args_tuple_add_2 _ _)
      (tuple_addW1 t b vs.toArray ws.toArray n n2 dd dd2 sl sl2 (by simpa using hv) (by simp [hw])) ⟨ho, ho2, h1 hw⟩
  · refine concat_meets ⟨_, ho, rfl⟩ ⟨_, ho2, rfl⟩ noFill_tuple_add seq_tuple_add PySem.F.slot_tuple_add PySem.F.entry_tuple_add (PySem.F.args_tuple_add_2 _ _)
      (tuple_addW2 t b vs.toArray ws.toArray n n2 dd dd2 sl sl2 (by simpa using hv) (by simpa using hw) (by rw [List.size_toArray, List.size_toArray]; exact hsz)) ⟨ho, ho2, ?_⟩
    rw [e]
    exact h2 hw
def sIx (n d : Nat) : Option Int → Nat
  | none => d
  | some v => if v < 0 then (v + (n : Int)).toNat else min v.toNat n
theorem sIx_nat (n d k : Nat) : sIx n d (some (k : Int)) = min k n := by
  show (if (k : Int) < 0 then ((k : Int) + (n : Int)).toNat else min (k : Int).toNat n) = min k n
  rw [if_neg (by omega), Int.toNat_natCast]
theorem sIx_le (n d : Nat) (hd : d ≤ n) (o : Option Int) : sIx n d o ≤ n := by
  cases o with
  | none => exact hd
  | some v =>
    show (if v < 0 then (v + (n : Int)).toNat else min v.toNat n) ≤ n
    by_cases hv : v < 0
    · rw [if_pos hv]; omega
    · rw [if_neg hv]; exact Nat.min_le_right _ _
theorem clip_eq (v : Int) (n d : Nat) : (if v < 0 then max (v + (n : Int)) 0 else min v (n : Int)) = ((sIx n d (some v) : Nat) : Int) := by
  show (if v < 0 then max (v + (n : Int)) 0 else min v (n : Int)) = (((if v < 0 then (v + (n : Int)).toNat else min v.toNat n) : Nat) : Int)
  by_cases hv : v < 0
  · simp only [if_pos hv]; omega
  · simp only [if_neg hv]; omega
theorem adjust_gen (lo hi : Option Int) (n : Nat) : Builtin.Slice.sliceAdjust lo hi 1 (n : Int) = (((sIx n 0 lo : Nat) : Int), ((sIx n n hi : Nat) : Int)) := by
  have h1 : ¬ ((1 : Int) < 0) := by omega
  unfold Builtin.Slice.sliceAdjust
  simp only [h1, if_false]
  refine Prod.ext ?_ ?_
  · cases lo with
    | none => rfl
    | some v => exact clip_eq v n 0
  · cases hi with
    | none => rfl
    | some v => exact clip_eq v n n
theorem places_gen (i j : Nat) : Builtin.Slice.slicePlaces (i : Int) (j : Int) 1 = j - i := by
  unfold Builtin.Slice.slicePlaces
  have h1 : (1 : Int) > 0 := by omega
  simp only [h1, if_true, Int.ediv_one]
  split <;> omega
theorem slicePart_ {v : Value} {o : Option Int} {Q : Option Int → Shared → Prop} (p : IsPart v o) (h : Q o s) : wpAny (model prog w) A (Builtin.Slice.slicePartIndex v) Q E s := by
  cases p with
  | none => exact slicePart_none h
  | int i t => exact slicePart_int h
theorem sliceApplied_gen {sl : Addr} {vl vu : Value} {lo hi : Option Int} {n : Nat} {Q : Int × Int × Nat → Shared → Prop} (hs : s.heap.IsSliceOf sl vl vu .none) (pl : IsPart vl lo) (pu : IsPart vu hi)
    (h : Q (((sIx n 0 lo : Nat) : Int), 1, sIx n n hi - sIx n 0 lo) s) : wpAny (model prog w) A (Builtin.Slice.sliceApplied (.ref sl) (pure (n : Int))) Q E s := by
  obtain ⟨os, hos, hcs, hds⟩ := id hs
  unfold Builtin.Slice.sliceApplied Builtin.Slice.sliceFields
  refine wpAny_bind (wpAny_bind (wpAny_field hos hds (x := vl) rfl (wpAny_bind (wpAny_field hos hds (x := vu) rfl (wpAny_bind (wpAny_field hos hds (x := .none) rfl (wpAny_pure ?_)))))))
  refine wpAny_bind (slicePart_none ?_)
  show wpAny _ _ (if ((1 : Int) == 0) = true then _ else _) _ _ s
  rw [if_neg (by decide)]
  refine wpAny_bind (slicePart_ pl (wpAny_bind (slicePart_ pu (wpAny_bind (wpAny_pure ?_)))))
  show wpAny _ _ (match Builtin.Slice.sliceAdjust lo hi 1 (n : Int) with | (lo, hi) => pure (lo, (1 : Int), Builtin.Slice.slicePlaces lo hi 1)) _ _ s
  rw [adjust_gen lo hi n]
  show wpAny _ _ (pure (((sIx n 0 lo : Nat) : Int), (1 : Int), Builtin.Slice.slicePlaces ((sIx n 0 lo : Nat) : Int) ((sIx n n hi : Nat) : Int) 1)) _ _ s
  rw [places_gen]
  exact wpAny_pure h
theorem pick_gen (xs : Array Value) (i k : Nat) : ((List.range k).filterMap fun (m : Nat) => xs[((i : Int) + (m : Int) * 1).toNat]?).toArray = ((xs.toList.drop i).take k).toArray := by
  have e : (fun (m : Nat) => xs[((i : Int) + (m : Int) * 1).toNat]?) = fun m => xs[i + m]? := by
    funext m
    have : ((i : Int) + (m : Int) * 1).toNat = i + m := by omega
    rw [this]
  rw [e]
  have := pick_run xs i k
  rw [List.filterMap_map] at this
  have e2 : ((fun x => xs[x]?) ∘ fun x => i + x) = fun m => xs[i + m]? := rfl
  rw [e2] at this
  rw [this]
theorem getItem_tuple_cut {t sl : Addr} {items : Array Value} {vl vu : Value} {lo hi : Option Int} {Q : Value → Shared → Prop} (ht : IsTup s.heap t items) (hs : s.heap.IsSliceOf sl vl vu .none) (pl : IsPart vl lo) (pu : IsPart vu hi)
    (hw : ¬ (sIx items.size 0 lo = 0 ∧ sIx items.size items.size hi = items.size))
    (h : Q (.ref s.heap.objs.size) { s with heap := s.heap.push { cls := .type "tuple", data := .seq ((items.toList.drop (sIx items.size 0 lo)).take (sIx items.size items.size hi - sIx items.size 0 lo)).toArray } })
    (hsz : items.size ≤ sizeLine) : wpAny (model prog w) A (getItem (.ref t) (.ref sl)) Q E s := by
  have htake : sizeOk (.seq ((items.toList.drop (sIx items.size 0 lo)).take (sIx items.size items.size hi - sIx items.size 0 lo)).toArray) := by
    show ((items.toList.drop (sIx items.size 0 lo)).take (sIx items.size items.size hi - sIx items.size 0 lo)).toArray.size ≤ sizeLine
    rw [List.size_toArray, List.length_take, List.length_drop, Array.length_toList]
    omega
  have hj : sIx items.size items.size hi ≤ items.size := sIx_le _ _ (Nat.le_refl _) hi
  obtain ⟨os, hos, hcs, hds⟩ := id hs
  have hTs : s.TypeIs (.ref sl) "slice" := ⟨os, hos, hcs⟩
  unfold getItem
  try with_reducible refine wpAny_holding ?_
  first | refine wpAny_bind (wpAny_pure ?_) | skip
  refine wpAny_bind (wpAny_sequenceKey ht.typeIs (by decide) ?_)
  refine wpAny_bind (wpAny_callSpecial?_slot (name := Str.ofString "__getitem__") ht.typeIs PyProof.Rows.slot_tuple_getitem
    (wpAny_call_entry PyProof.Rows.slot_tuple_getitem ht.typeIs entry_tuple_getitem ?_ (args_tuple_getitem _ _)))
  show wpAny _ _ (Builtin.Tuple.tupleItemsOf (.ref t) >>= _) _ _ s
  refine wpAny_bind (tupleItemsOf_ ht ?_)
  refine wpAny_bind (wpAny_typeOf hTs ?_)
  rw [if_pos (by decide)]
  refine wpAny_bind (sliceApplied_gen hs pl pu ?_)
  have hno : ¬ ((((sIx items.size 0 lo : Nat) : Int) == 0 && (1 : Int) == 1 && (sIx items.size items.size hi - sIx items.size 0 lo) == items.size) = true) := by
    intro q
    rw [Bool.and_eq_true, Bool.and_eq_true] at q
    have q1 : ((sIx items.size 0 lo : Nat) : Int) = 0 := eq_of_beq q.1.1
    have q2 : sIx items.size items.size hi - sIx items.size 0 lo = items.size := eq_of_beq q.2
    exact hw ⟨by omega, by omega⟩
  show wpAny _ _ (if (((sIx items.size 0 lo : Nat) : Int) == 0 && (1 : Int) == 1 && (sIx items.size items.size hi - sIx items.size 0 lo) == items.size) = true then _ else _) _ _ s
  rw [if_neg hno, pick_gen]
  first
    | exact wpAny_bind (m := Builtin.Tuple.tupleExact _) (wpAny_newObj_type (wpAny_pure ⟨_, rfl, wpAny_pure h⟩) htake)
    | exact wpAny_bind (m := Builtin.Tuple.tupleExact _) (wpAny_newObj_type (wpAny_bind (wpAny_pure (wpAny_pure ⟨_, rfl, wpAny_pure h⟩))) htake)
    | exact wpAny_bind (wpAny_bind (m := Builtin.Tuple.tupleExact _) (wpAny_newObj_type (wpAny_pure (wpAny_pure ⟨_, rfl, wpAny_pure h⟩)) htake))
    | exact wpAny_bind (wpAny_bind (m := Builtin.Tuple.tupleExact _) (wpAny_newObj_type (wpAny_pure ⟨_, rfl, wpAny_pure h⟩) htake))
end
end HT
namespace L2
open PySem PySem.Spec PyProof.Rows
abbrev TO := St → Hp → (Option Int → Hp → Prop) → Prop
def PO (X : Cx) (e : Option Expr) (t : TO) : Prop :=
  ∀ (pins : List (Addr × Obj)) (s : Shared) (σ : St) (H : Hp) (Q : Option Int → Hp → Prop), Inv X pins σ H s → t σ H Q →
    wpAny (model X.prog X.w) X.A (evalPart e X.env) (fun u s' => ∃ o H', Inv X pins σ H' s' ∧ IsPart u o ∧ Q o H') X.xe s
def tNoPart : TO := fun _ H Q => Q none H
def tPart (t : TE) : TO := fun σ H Q => t σ H fun x H1 => ∃ i, x = .int i ∧ Q (some i) H1
section
variable {X : Cx} {e : Expr} {te : TE} {lo hi : Option Expr} {tl th : TO} {pos p2 : Pos}
theorem po_none : PO X none tNoPart := by
  intro pins s σ H Q I h
  rw [evalPart_none]
  exact wpAny_pure ⟨none, H, I, .none, h⟩
theorem po_some (h : PE X e te) : PO X (some e) (tPart te) := by
  intro pins s σ H Q I hw
  rw [evalPart_some]
  refine thn (h pins s σ H _ I hw) fun u s1 ⟨x, H1, I1, r1, q1⟩ => ?_
  obtain ⟨i, rfl, q⟩ := q1
  obtain ⟨t, rfl⟩ := r1
  exact ⟨some i, H1, I1, .int i t, q⟩
def SlR (X : Cx) (r : V → Option Int → Option Int → Hp → VK → Prop) : Prop :=
  ∀ (pins : List (Addr × Obj)) (s : Shared) (σ : St) (H : Hp) (x : V) (v vl vu : Value) (lo hi : Option Int) (sl : Addr) (Q : VK), Inv X pins σ H s → RelV x v → s.heap.IsSliceOf sl vl vu .none → IsPart vl lo → IsPart vu hi → r x lo hi H Q →
    ∃ T id, typeLookup (.type T) "__getitem__" = pure (some (.builtin id)) ∧ s.TypeIs v T ∧ wpAny (model X.prog X.w) X.A (getItem v (.ref sl)) (EP X pins σ Q) X.xe s
theorem SlR.or {r r' : V → Option Int → Option Int → Hp → VK → Prop} (h : SlR X r) (h' : SlR X r') : SlR X (fun x lo hi H Q => r x lo hi H Q ∨ r' x lo hi H Q) := by
  intro pins s σ H x v vl vu lo hi sl Q I rx hs pl pu q
  rcases q with q | q
  · exact h pins s σ H x v vl vu lo hi sl Q I rx hs pl pu q
  · exact h' pins s σ H x v vl vu lo hi sl Q I rx hs pl pu q
def tSl (r : V → Option Int → Option Int → Hp → VK → Prop) (te : TE) (tl th : TO) : TE := fun σ H Q => te σ H fun x H1 => tl σ H1 fun l H2 => th σ H2 fun u H3 => r x l u H3 Q
theorem pe_slice {r : V → Option Int → Option Int → Hp → VK → Prop} (hr : SlR X r) (he : PE X e te) (hl : PO X lo tl) (hu : PO X hi th) : PE X (.Subscript e (.Slice lo hi none p2) pos) (tSl r te tl th) := by
  intro pins s σ H Q I h
  refine Subscript_ (thn (he pins s σ H _ I h) fun v s1 ⟨x, H1, I1, r1, q1⟩ => ?_)
  refine wpAny_Slice (thn (hl pins s1 σ H1 _ I1 q1) fun vl s2 ⟨l, H2, I2, pl, q2⟩ => thn (hu pins s2 σ H2 _ I2 q2) fun vu s3 ⟨u, H3, I3, pu, q3⟩ => ?_)
  rw [evalPart_none]
  refine wpAny_pure ?_
  have I4 : Inv X pins σ H3 { s3 with heap := s3.heap.push { cls := .type "slice", data := .fields #[vl, vu, .none] } } := I3.kept (t' := s3.toks) fun b ob q => Heap.get?_push_of_some _ q
  obtain ⟨T, id, hT, ht, hg⟩ := hr pins { s3 with heap := s3.heap.push { cls := .type "slice", data := .fields #[vl, vu, .none] } } σ H3 x v vl vu l u s3.heap.objs.size Q I4 r1 (Heap.IsSliceOf.new ..) pl pu q3
  show wpAny (model X.prog X.w) X.A (subscriptTail e (.Slice lo hi none p2) v (.ref s3.heap.objs.size)) (EP X pins σ Q) X.xe { s3 with heap := s3.heap.push { cls := .type "slice", data := .fields #[vl, vu, .none] } }
  exact tail_any (ops := [.ref s3.heap.objs.size, v]) ht hT hg (by with_unfolding_all rfl)
def cutV (xs : List V) (lo hi : Option Int) : List V := (xs.drop (HT.sIx xs.length 0 lo)).take (HT.sIx xs.length xs.length hi - HT.sIx xs.length 0 lo)
theorem cutV_length (xs : List V) (lo hi : Option Int) : (cutV xs lo hi).length ≤ xs.length := by
  unfold cutV
  rw [List.length_take, List.length_drop]
  omega
def rSlT (K : PySem.W.Frag) : V → Option Int → Option Int → Hp → VK → Prop := fun x lo hi H Q => ∃ a xs, x = .ref a ∧ SqT K H a xs ∧
  ¬ (HT.sIx xs.length 0 lo = 0 ∧ HT.sIx xs.length xs.length hi = xs.length) ∧ ∀ p, H p = none → Q (.ref p) (upd H p (.tup (cutV xs lo hi)))
theorem sl_tup : SlR X (rSlT X.K) := by
  intro pins s σ H x v vl vu lo hi sl Q I rx hs pl pu h
  obtain ⟨a, xs, rfl, hx, hw, q⟩ := h
  cases rx
  obtain ⟨its, r, ht, hz⟩ := I.tuple hx
  have hlen : its.toArray.size = xs.length := by rw [List.size_toArray]; exact r.length.symm
  refine ⟨"tuple", _, PyProof.Rows.slot_tuple_getitem.lookup, ht.typeIs, ?_⟩
  refine HT.getItem_tuple_cut ht hs pl pu (by rw [hlen]; exact hw) ?_ (by rw [hlen]; exact hz)
  rw [hlen]
  refine ⟨.ref s.heap.objs.size, _, I.laid (t' := s.toks) (o := .tup (cutV xs lo hi)) (fun b ob q => Heap.get?_push_of_some _ q) (Nat.le_refl _) ?_, rfl, q _ (I.hok.fresh (Nat.le_refl _))⟩
  exact ⟨Nat.le_trans (cutV_length xs lo hi) hz, _, (r.drop (HT.sIx xs.length 0 lo)).take (HT.sIx xs.length xs.length hi - HT.sIx xs.length 0 lo), IsTup.new _ _⟩
def rCatT (K : PySem.W.Frag) : R2 := fun x y H Q => ∃ a b xs ys, x = .ref a ∧ y = .ref b ∧ SqT K H a xs ∧ SqT K H b ys ∧ xs ≠ [] ∧ xs.length + ys.length ≤ sizeLine ∧
  (ys = [] → Q (.ref a) H) ∧ (ys ≠ [] → ∀ p, H p = none → Q (.ref p) (upd H p (.tup (xs ++ ys))))
theorem Vals.nil_iff {xs : List V} {us : List Value} (r : Vals xs us) : us = [] ↔ xs = [] := by
  cases r with
  | nil => simp
  | cons _ _ => simp
theorem op_catT : OpR X (binaryOp .Add) (rCatT X.K) := by
  intro pins s σ H x y v u Q I rx ry h
  obtain ⟨a, b, xs, ys, rfl, rfl, ha, hb, hx, hz, q1, q2⟩ := h
  cases rx
  cases ry
  obtain ⟨its, r1, p1, _⟩ := I.tuple ha
  obtain ⟨its2, r2, p2, _⟩ := I.tuple hb
  refine HT.cat_tup p1 p2 (fun z => hx (r1.nil_iff.mp z)) (fun z => ⟨.ref a, H, I, rfl, q1 (r2.nil_iff.mp z)⟩) (fun z => ?_) (by rw [← r1.length, ← r2.length]; exact hz)
  refine ⟨.ref s.heap.objs.size, _, I.laid (t' := s.toks) (o := .tup (xs ++ ys)) (fun b ob q => Heap.get?_push_of_some _ q) (Nat.le_refl _) ?_, rfl, q2 (fun w => z (r2.nil_iff.mpr w)) _ (I.hok.fresh (Nat.le_refl _))⟩
  exact ⟨by rw [List.length_append]; exact hz, _, r1.append r2, IsTup.new _ _⟩
end
end L2
namespace L2
open PySem PySem.Spec PyProof.Rows
def ixN (n : Nat) (i : Int) : Option Nat := if 0 ≤ i then (if i < n then some i.toNat else none) else if -(n : Int) ≤ i then some (i + n).toNat else none
def atI {α : Type} (xs : List α) (i : Int) : Option α := (ixN xs.length i).bind fun j => xs[j]?
theorem ixN_seq {n : Nat} {i : Int} {j : Nat} (h : ixN n i = some j) : seqIndex? i n = some j ∧ j < n ∧ -(n : Int) ≤ i ∧ i < n := by
  unfold ixN at h
  by_cases h0 : 0 ≤ i
  · rw [if_pos h0] at h
    by_cases h1 : i < n
    · rw [if_pos h1] at h
      have e : i.toNat = j := Option.some.inj h
      exact ⟨by rw [seqIndex_of h0 h1, e], by omega, by omega, h1⟩
    · rw [if_neg h1] at h; cases h
  · rw [if_neg h0] at h
    by_cases h1 : -(n : Int) ≤ i
    · rw [if_pos h1] at h
      have e : (i + n).toNat = j := Option.some.inj h
      exact ⟨by rw [seqIndex_neg (by omega) h1, e], by omega, h1, by omega⟩
    · rw [if_neg h1] at h; cases h
theorem atI_get {α : Type} {xs : List α} {i : Int} {v : α} (h : atI xs i = some v) : ∃ j, seqIndex? i xs.length = some j ∧ xs[j]? = some v ∧ j < xs.length ∧ -(xs.length : Int) ≤ i ∧ i < xs.length := by
  unfold atI at h
  cases e : ixN xs.length i with
  | none => rw [e] at h; cases h
  | some j =>
    rw [e] at h
    obtain ⟨h1, h2, h3, h4⟩ := ixN_seq e
    exact ⟨j, h1, h, h2, h3, h4⟩
theorem atI_nat {α : Type} {xs : List α} {j : Nat} {v : α} (h : xs[j]? = some v) : atI xs (j : Int) = some v := by
  have hj : j < xs.length := (List.getElem?_eq_some_iff.mp h).1
  have e : ixN xs.length (j : Int) = some j := by
    unfold ixN
    rw [if_pos (by omega), if_pos (by omega)]; simp
  unfold atI; rw [e]; exact h
def PlainIx (b : Expr) : Prop := ∀ o i, subscripted b false o i = operate [o, i] (getItem o i)
def IxR (X : Cx) (r : R2) : Prop :=
  ∀ (value slice : Expr) (pins : List (Addr × Obj)) (s : Shared) (σ : St) (H : Hp) (x y : V) (v u : Value) (Q : VK), Inv X pins σ H s → RelV x v → RelV y u → r x y H Q →
    subscripted slice false v u = operate [v, u] (getItem v u) → wpAny (model X.prog X.w) X.A (subscriptTail value slice v u) (EP X pins σ Q) X.xe s
def MtR (X : Cx) (id : String) (r : V → List V → Hp → VK → Prop) : Prop :=
  ∀ (pins : List (Addr × Obj)) (s : Shared) (σ : St) (H : Hp) (x : V) (xs : List V) (v : Value) (us : List Value) (Q : VK), Inv X pins σ H s → RelV x v → Vals xs us → r x xs H Q →
    wpAny (model X.prog X.w) X.A (call (.builtin id) (v :: us)) (EP X pins σ Q) X.xe s
section
variable {X : Cx} {a b : Expr} {ta tb : TE} {pos : Pos}
theorem IxR.or {r r' : R2} (h : IxR X r) (h' : IxR X r') : IxR X (fun x y H Q => r x y H Q ∨ r' x y H Q) := by
  intro value slice pins s σ H x y v u Q I rx ry q hs
  rcases q with q | q
  · exact h value slice pins s σ H x y v u Q I rx ry q hs
  · exact h' value slice pins s σ H x y v u Q I rx ry q hs
theorem MtR.or {id : String} {r r' : V → List V → Hp → VK → Prop} (h : MtR X id r) (h' : MtR X id r') : MtR X id (fun x xs H Q => r x xs H Q ∨ r' x xs H Q) := by
  intro pins s σ H x xs v us Q I rx rs q
  rcases q with q | q
  · exact h pins s σ H x xs v us Q I rx rs q
  · exact h' pins s σ H x xs v us Q I rx rs q
theorem pe_ix {r : R2} (hr : IxR X r) (ha : PE X a ta) (hb : PE X b tb) (hs : PlainIx b) : PE X (.Subscript a b pos) (tOp r ta tb) := by
  intro pins s σ H Q I h
  exact Subscript_ (binT ha hb I h fun v u s2 x y H2 I2 rx ry q => hr a b pins s2 σ H2 x y v u Q I2 rx ry q (hs _ _))
def rIxL (K : PySem.W.Frag) : R2 := fun x y H Q => ∃ p xs i v, x = .ref p ∧ y = .int i ∧ SqL K H p xs ∧ atI xs i = some v ∧ Q v H
def rIxT (K : PySem.W.Frag) : R2 := fun x y H Q => ∃ p xs i v, x = .ref p ∧ y = .int i ∧ SqT K H p xs ∧ atI xs i = some v ∧ Q v H
def rIxS : R2 := fun x y H Q => ∃ z i c, x = .str z ∧ y = .int i ∧ z.length ≤ sizeLine ∧ atI z.cps.toList i = some c ∧ Q (.str ⟨#[c]⟩) H
theorem ix_list : IxR X (rIxL X.K) := by
  intro value slice pins s σ H x y v u Q I rx ry h hs
  obtain ⟨p, xs, i, z, rfl, rfl, hq, he, q⟩ := h
  cases rx
  obtain ⟨t, rfl⟩ := ry
  obtain ⟨its, r, pl, hz⟩ := I.list hq
  obtain ⟨j, h1, h2, h3, h4, h5⟩ := atI_get he
  obtain ⟨w, ew, rw'⟩ := r.get h2
  have hl := r.length
  have hn := line63
  have fin : EP X pins σ Q w s := ⟨z, H, I, rw', q⟩
  by_cases h0 : 0 ≤ i
  · have hj : i.toNat = j := by
      rw [seqIndex_of h0 h5] at h1
      exact Option.some.inj h1
    exact item_listR pl.isList h0 (by omega) (by rw [hj]; simpa using ew) fin hs
  · have hj : (i + (its.toArray.size : Int)).toNat = j := by
      rw [seqIndex_neg (by omega) h4] at h1
      rw [List.size_toArray, ← hl]
      exact Option.some.inj h1
    exact subscriptTail_builtinR (x := w) pl.isList.typeIs slot_list_getitem.lookup
      (wpAny_getItem_list_neg (Q := fun r s' => r = w ∧ EP X pins σ Q r s') pl.isList (by omega) (by rw [List.size_toArray] <;> omega) (by omega) (by rw [hj]; simpa using ew) ⟨rfl, fin⟩) hs
theorem ix_tup : IxR X (rIxT X.K) := by
  intro value slice pins s σ H x y v u Q I rx ry h hs
  obtain ⟨p, xs, i, z, rfl, rfl, hq, he, q⟩ := h
  cases rx
  obtain ⟨t, rfl⟩ := ry
  obtain ⟨its, r, pl, hz⟩ := I.tuple hq
  obtain ⟨j, h1, h2, h3, h4, h5⟩ := atI_get he
  obtain ⟨w, ew, rw'⟩ := r.get h2
  have hl := r.length
  have hn := line63
  have fin : EP X pins σ Q w s := ⟨z, H, I, rw', q⟩
  exact subscriptTail_builtinR (x := w) pl.typeIs slot_tuple_getitem.lookup
    (getItem_tuple (j := j) (Q := fun r s' => r = w ∧ EP X pins σ Q r s') pl (by omega) (by omega) (by rw [List.size_toArray, ← hl]; exact h1) (by simpa using ew) ⟨rfl, fin⟩) hs
theorem ix_str : IxR X rIxS := by
  intro value slice pins s σ H x y v u Q I rx ry h hs
  obtain ⟨z, i, c, rfl, rfl, hz, he, q⟩ := h
  obtain ⟨t, rfl⟩ := rx
  obtain ⟨t', rfl⟩ := ry
  obtain ⟨j, h1, h2, h3, h4, h5⟩ := atI_get he
  have hl : z.cps.toList.length = z.length := by simp [Str.length]
  rw [hl] at h1 h4 h5
  have hn := line63
  exact tail_any (typeIs_str s z t) slot_str_getitem.lookup (getItem_str (c := c) (by
    have e1 : decide (i < -(2 ^ 63 : Int)) = false := decide_eq_false (by omega)
    have e2 : decide (i ≥ 2 ^ 63) = false := decide_eq_false (by omega)
    rw [e1, e2, Bool.or_false]) (by rw [h1]; simpa using h2) ⟨.str ⟨#[c]⟩, H, I.tok _, ⟨_, rfl⟩, q⟩) hs
def rIx (K : PySem.W.Frag) : R2 := fun x y H Q => rIxL K x y H Q ∨ rIxT K x y H Q ∨ rIxS x y H Q
theorem ix_seq : IxR X (rIx X.K) := ix_list.or (ix_tup.or ix_str)
theorem mapSeq_set (its : List Value) (n j : Nat) (u : Value) : Obj.mapSeq (·.setIfInBounds j u) { cls := .type "list", data := .seq its.toArray n } = { cls := .type "list", data := .seq (its.set j u).toArray n } := by
  simp [Obj.mapSeq]
theorem Inv.lst {pins : List (Addr × Obj)} {σ : St} {H : Hp} {s : Shared} {p : Addr} {xs : List V} (I : Inv X pins σ H s) (h : H p = some (.lst xs)) :
    ∃ (its : List Value) (n : Nat), Vals xs its ∧ s.heap.get? p = some { cls := .type "list", data := .seq its.toArray n } ∧ xs.length ≤ sizeLine := by
  obtain ⟨z, its, n, r, e⟩ := I.hok p _ h
  exact ⟨its, n, r, e, z⟩
theorem Inv.lstUpd {pins : List (Addr × Obj)} {σ : St} {H : Hp} {s : Shared} {p : Addr} {xs ys : List V} {its its' : List Value} {n n' : Nat} {f : Obj → Obj} (I : Inv X pins σ H s) (h : H p = some (.lst xs))
    (ho : s.heap.get? p = some { cls := .type "list", data := .seq its.toArray n }) (hf : f { cls := .type "list", data := .seq its.toArray n } = { cls := .type "list", data := .seq its'.toArray n' }) (r : Vals ys its') (hz : ys.length ≤ sizeLine) (t : Nat) :
    Inv X pins σ (upd H p (.lst ys)) { s with heap := s.heap.update p f, toks := t } := by
  have e : (s.heap.update p f).get? p = some { cls := .type "list", data := .seq its'.toArray n' } := by
    rw [Heap.get?_update_self f ho (by rw [hf] <;> rfl), hf]
  refine I.write (x := p) (e := p) (by rw [h]; trivial) (.inl rfl) (fun b u hb q => (Heap.get?_update_other _ _ (Ne.symm hb)).trans q) ⟨_, e⟩ ?_
  exact ⟨hz, its', n', r, e⟩
def rSetL : V → V → V → Hp → (Hp → Prop) → Prop := fun o i v H Q => ∃ p xs k j, o = .ref p ∧ i = .int k ∧ H p = some (.lst xs) ∧ ixN xs.length k = some j ∧ Q (upd H p (.lst (xs.set j v)))
theorem set_list : PSet X rSetL := by
  intro pins s σ H o i v ov iv u Q I ro ri rv h
  obtain ⟨p, xs, k, j, rfl, rfl, hp, hj, q⟩ := h
  cases ro
  obtain ⟨t, rfl⟩ := ri
  obtain ⟨its, n, r, ho, hz⟩ := I.lst hp
  obtain ⟨h1, h2, h3, h4⟩ := ixN_seq hj
  have hl := r.length
  have hn := line63
  have I' : Inv X pins σ (upd H p (.lst (xs.set j v))) { s with heap := s.heap.update p (Obj.mapSeq (·.setIfInBounds j u)) } :=
    I.lstUpd hp ho (mapSeq_set its n j u) (r.set rv j) (by rw [List.length_set]; exact hz) s.toks
  by_cases h0 : 0 ≤ k
  · have hk : k.toNat = j := by
      rw [seqIndex_of h0 h4] at h1
      exact Option.some.inj h1
    exact PySem.W.ki_setAt ho h0 (by omega) (by rw [List.size_toArray, ← hl]; exact h4) (by rw [hk]; exact ⟨_, I', q⟩)
  · have hk : (k + (its.toArray.size : Int)).toNat = j := by
      rw [seqIndex_neg (by omega) h3] at h1
      rw [List.size_toArray, ← hl]
      exact Option.some.inj h1
    exact PySem.W.ki_setBack ho (by omega) (by rw [List.size_toArray, ← hl]; exact h3) (by omega) (by rw [hk]; exact ⟨_, I', q⟩)
theorem slice_bounds (lo hi : Option Int) (n : Nat) : (sliceBounds lo hi none n).1 = ((HT.sIx n 0 lo : Nat) : Int) ∧ (sliceBounds lo hi none n).2.1 = ((HT.sIx n n hi : Nat) : Int) ∧ (sliceBounds lo hi none n).2.2 = 1 := by
  refine ⟨?_, ?_, rfl⟩
  · cases lo with
    | none => simp [sliceBounds, HT.sIx]
    | some i =>
      simp only [sliceBounds, HT.sIx, Option.getD_none, show (1 : Int) > 0 by decide, if_true]
      by_cases h : i < 0
      · simp only [h, if_true] <;> omega
      · simp only [h, if_false] <;> omega
  · cases hi with
    | none => simp [sliceBounds, HT.sIx]
    | some i =>
      simp only [sliceBounds, HT.sIx, Option.getD_none, show (1 : Int) > 0 by decide, if_true]
      by_cases h : i < 0
      · simp only [h, if_true] <;> omega
      · simp only [h, if_false] <;> omega
theorem slicePick_cut (its : List Value) (lo hi : Option Int) : slicePick its.toArray lo hi none = ((its.drop (HT.sIx its.length 0 lo)).take (HT.sIx its.length its.length hi - HT.sIx its.length 0 lo)).toArray := by
  obtain ⟨h1, h2, h3⟩ := slice_bounds lo hi its.toArray.size
  unfold slicePick
  rw [h1, h2, h3]
  simp only [sliceRange_one, pick_run, List.size_toArray] <;> rfl
def rSlL (K : PySem.W.Frag) : V → Option Int → Option Int → Hp → VK → Prop := fun x lo hi H Q => ∃ a xs, x = .ref a ∧ SqL K H a xs ∧ ∀ p, H p = none → Q (.ref p) (upd H p (.lst (cutV xs lo hi)))
theorem sl_list : SlR X (rSlL X.K) := by
  intro pins s σ H x v vl vu lo hi sl Q I rx hs pl pu h
  obtain ⟨a, xs, rfl, hx, q⟩ := h
  cases rx
  obtain ⟨its, r, ht, hz⟩ := I.list hx
  have hlen := r.length
  refine ⟨"list", _, slot_list_getitem.lookup, ht.isList.typeIs, ?_⟩
  refine wpAny_getItem_list_slice ht.isList hs pl pu .none (by simp) ?_ (by rw [List.size_toArray] <;> omega)
  rw [slicePick_cut, ← hlen]
  refine ⟨.ref s.heap.objs.size, _, I.laid (t' := s.toks) (o := .lst (cutV xs lo hi)) (fun b ob q => Heap.get?_push_of_some _ q) (Nat.le_refl _) ?_, rfl, q _ (I.hok.fresh (Nat.le_refl _))⟩
  exact ⟨Nat.le_trans (cutV_length xs lo hi) hz, _, 0, (r.drop (HT.sIx xs.length 0 lo)).take (HT.sIx xs.length xs.length hi - HT.sIx xs.length 0 lo), Heap.get?_push_size _ rfl⟩
def flatV : V → Bool
  | .non => true
  | .bl _ => true
  | .int _ => true
  | .str _ => true
  | _ => false
def eqV : V → V → Bool
  | .non, .non => true
  | .bl a, .bl b => a == b
  | .bl a, .int b => (if a then 1 else 0) == b
  | .int a, .bl b => a == (if b then 1 else 0)
  | .int a, .int b => a == b
  | .str a, .str b => a == b
  | _, _ => false
theorem eqAt_V {A : Around} {s : Shared} {y x : V} {u v : Value} (ry : RelV y u) (rx : RelV x v) (fy : flatV y = true) (fx : flatV x = true) : SeqAt.EqAt A s u v (eqV y x) := by
  cases y with
  | non =>
    cases ry
    cases x with
    | non => cases rx; exact SeqAt.EqAt.same _
    | bl b => cases rx; exact SeqAt.EqAt.none_bool b
    | int b => obtain ⟨t, rfl⟩ := rx; exact SeqAt.EqAt.none_int b t
    | str b => obtain ⟨t, rfl⟩ := rx; exact SeqAt.EqAt.none_str b t
    | _ => exact absurd (show false = true from fx) Bool.false_ne_true
  | bl a =>
    cases ry
    cases x with
    | non => cases rx; exact SeqAt.EqAt.bool_none a
    | bl b => cases rx; exact SeqAt.EqAt.bool_bool a b
    | int b => obtain ⟨t, rfl⟩ := rx; exact SeqAt.EqAt.bool_int a b t
    | str b => obtain ⟨t, rfl⟩ := rx; exact SeqAt.EqAt.bool_str a b t
    | _ => exact absurd (show false = true from fx) Bool.false_ne_true
  | int a =>
    obtain ⟨t', rfl⟩ := ry
    cases x with
    | non => cases rx; exact SeqAt.EqAt.int_none a t'
    | bl b => cases rx; exact SeqAt.EqAt.int_bool a t' b
    | int b => obtain ⟨t, rfl⟩ := rx; exact SeqAt.EqAt.int_int a t' b t
    | str b => obtain ⟨t, rfl⟩ := rx; exact SeqAt.EqAt.int_str a t' b t
    | _ => exact absurd (show false = true from fx) Bool.false_ne_true
  | str a =>
    obtain ⟨t', rfl⟩ := ry
    cases x with
    | non => cases rx; exact SeqAt.EqAt.str_none a t'
    | bl b => cases rx; exact SeqAt.EqAt.str_bool a t' b
    | int b => obtain ⟨t, rfl⟩ := rx; exact SeqAt.EqAt.str_int a t' b t
    | str b => obtain ⟨t, rfl⟩ := rx; exact SeqAt.EqAt.str_str a t' b t
    | _ => exact absurd (show false = true from fx) Bool.false_ne_true
  | _ => exact absurd (show false = true from fy) Bool.false_ne_true
def eqU (x : V) (u : Value) : Bool := match u with
  | .none => eqV .non x
  | .bool b => eqV (.bl b) x
  | .int i _ => eqV (.int i) x
  | .str z _ => eqV (.str z) x
  | _ => false
theorem eqU_of {x y : V} {u : Value} (r : RelV y u) (f : flatV y = true) : eqU x u = eqV y x := by
  cases y with
  | non => cases r; rfl
  | bl b => cases r; rfl
  | int i => obtain ⟨t, rfl⟩ := r; rfl
  | str z => obtain ⟨t, rfl⟩ := r; rfl
  | _ => exact absurd (show false = true from f) Bool.false_ne_true
theorem any_eqU {x : V} : ∀ {xs : List V} {us : List Value}, Vals xs us → xs.all flatV = true → us.any (eqU x) = xs.any fun y => eqV y x
  | _, _, .nil, _ => rfl
  | y :: xs, u :: us, .cons r t, f => by
    rw [List.all_cons, Bool.and_eq_true] at f
    rw [List.any_cons, List.any_cons, eqU_of r f.1, any_eqU t f.2]
theorem mem_eqAt {A : Around} {s : Shared} {x : V} {v : Value} (rx : RelV x v) (fx : flatV x = true) : ∀ {xs : List V} {us : List Value}, Vals xs us → xs.all flatV = true → ∀ u ∈ us, SeqAt.EqAt A s u v (eqU x u)
  | _, _, .nil, _ => fun u hu => by cases hu
  | y :: xs, u :: us, .cons r t, f => fun u' hu => by
    rw [List.all_cons, Bool.and_eq_true] at f
    rcases List.mem_cons.mp hu with rfl | hu
    · rw [eqU_of r f.1]; exact eqAt_V r rx f.1 fx
    · exact mem_eqAt rx fx t f.2 u' hu
def inV (x : V) (xs : List V) : Bool := xs.any fun y => eqV y x
def rIn (K : PySem.W.Frag) (neg : Bool) : R2 := fun x y H Q => ∃ p xs, y = .ref p ∧ (SqL K H p xs ∨ SqT K H p xs) ∧ flatV x = true ∧ xs.all flatV = true ∧ Q (.bl (if neg then !inV x xs else inV x xs)) H
theorem op_in_seq : OpR X (compareOp .In) (rIn X.K false) := by
  intro pins s σ H x y v u Q I rx ry h
  obtain ⟨p, xs, rfl, hq, fx, fs, q⟩ := h
  cases ry
  rcases hq with hq | hq
  · obtain ⟨its, r, pl, hz⟩ := I.list hq
    refine SeqAt.in_listAt (eqU x) pl.isList (fun w hw => mem_eqAt rx fx r fs w (by simpa using hw)) ⟨.bl _, H, I, rfl, ?_⟩
    rw [show its.toArray.any (eqU x) = its.any (eqU x) by simp, any_eqU r fs]
    exact q
  · obtain ⟨its, r, pl, hz⟩ := I.tuple hq
    refine SeqAt.in_tupleAt (eqU x) pl (fun w hw => mem_eqAt rx fx r fs w (by simpa using hw)) ⟨.bl _, H, I, rfl, ?_⟩
    rw [show its.toArray.any (eqU x) = its.any (eqU x) by simp, any_eqU r fs]
    exact q
theorem op_notIn_seq : OpR X (compareOp .NotIn) (rIn X.K true) := by
  intro pins s σ H x y v u Q I rx ry h
  obtain ⟨p, xs, rfl, hq, fx, fs, q⟩ := h
  cases ry
  rcases hq with hq | hq
  · obtain ⟨its, r, pl, hz⟩ := I.list hq
    refine SeqAt.notIn_listAt (eqU x) pl.isList (fun w hw => mem_eqAt rx fx r fs w (by simpa using hw)) ⟨.bl _, H, I, rfl, ?_⟩
    rw [show its.toArray.any (eqU x) = its.any (eqU x) by simp, any_eqU r fs]
    exact q
  · obtain ⟨its, r, pl, hz⟩ := I.tuple hq
    refine SeqAt.notIn_tupleAt (eqU x) pl (fun w hw => mem_eqAt rx fx r fs w (by simpa using hw)) ⟨.bl _, H, I, rfl, ?_⟩
    rw [show its.toArray.any (eqU x) = its.any (eqU x) by simp, any_eqU r fs]
    exact q
theorem CallR.or {f : Value} {r r' : List V → Hp → VK → Prop} (h : CallR X f r) (h' : CallR X f r') : CallR X f (fun xs H Q => r xs H Q ∨ r' xs H Q) := by
  intro pins s σ H xs us Q I rs q
  rcases q with q | q
  · exact h pins s σ H xs us Q I rs q
  · exact h' pins s σ H xs us Q I rs q
theorem call_list_of : CallR X (.type "list") (fun xs H Q => ∃ p ys, xs = [.ref p] ∧ (SqL X.K H p ys ∨ SqT X.K H p ys) ∧ ∀ l, H l = none → Q (.ref l) (upd H l (.lst ys))) := by
  intro pins s σ H xs us Q I r h
  obtain ⟨p, ys, rfl, hq, q⟩ := h
  obtain ⟨u, rfl, rx⟩ := vals1 r
  cases rx
  have fin : ∀ (its : List Value), Vals ys its → ys.length ≤ sizeLine → ∀ (h' : Heap) (c' : Nat), (∀ b o', s.heap.get? b = some o' → h'.get? b = some o') →
      h'.get? s.heap.objs.size = some { cls := .type "list", dict := none, data := .seq its.toArray c', slots := #[] } → EP X pins σ Q (.ref s.heap.objs.size) { s with heap := h' } := fun its r' hz h' c' kp e =>
    ⟨.ref s.heap.objs.size, _, I.laid (t' := s.toks) kp (Nat.le_refl _) (show ObjOk X.prog X.w _ h' _ (.lst ys) from ⟨hz, its, c', r', e⟩), rfl, q _ (I.hok.fresh (Nat.le_refl _))⟩
  rcases hq with hq | hq
  · obtain ⟨its, r', pl, hz⟩ := I.list hq
    have hlen := r'.length
    obtain ⟨o, ho, hc, n, hd⟩ := pl.isList
    exact call_list_seq p (.inl rfl) ho hc hd (fun h' c' kp e => fin its r' hz h' c' kp e) (by simp only [List.size_toArray] <;> omega)
  · obtain ⟨its, r', pl, hz⟩ := I.tuple hq
    have hlen := r'.length
    obtain ⟨o, ho, hc, n, hd⟩ := pl
    exact call_list_seq p (.inr rfl) ho hc hd (fun h' c' kp e => fin its r' hz h' c' kp e) (by simp only [List.size_toArray] <;> omega)
def tyV (K : PySem.W.Frag) (T : String) (x : V) (H : Hp) : Prop := match x with
  | .str _ => T = "str"
  | .int _ => T = "int"
  | .ref p => (T = "list" ∧ ∃ xs, SqL K H p xs) ∨ (T = "tuple" ∧ ∃ o, K.lookup p = some o ∧ o.cls = .type "tuple" ∧ o.dict = none) ∨
      (T = "dict" ∧ ((∃ kvs, H p = some (.dK kvs)) ∨ ∃ kvs, H p = some (.dT kvs))) ∨ (T = "set" ∧ ∃ S n, H p = some (.set S n))
  | _ => False
theorem tyV_is {pins : List (Addr × Obj)} {σ : St} {H : Hp} {s : Shared} {T : String} {x : V} {v : Value} (I : Inv X pins σ H s) (r : RelV x v) (ty : tyV X.K T x H) :
    s.TypeIs v T ∧ ∀ a, v = .ref a → ∃ ob, s.heap.get? a = some ob ∧ ob.dict = none := by
  cases x with
  | str z =>
    obtain ⟨t, rfl⟩ := r
    cases (show T = "str" from ty)
    exact ⟨typeIs_str s z t, fun _ e => nomatch e⟩
  | int i =>
    obtain ⟨t, rfl⟩ := r
    cases (show T = "int" from ty)
    exact ⟨typeIs_int s i t, fun _ e => nomatch e⟩
  | ref p =>
    cases r
    rcases ty with ⟨rfl, xs, hq⟩ | ⟨rfl, o, hk, hc, hd⟩ | ⟨rfl, hk⟩ | ⟨rfl, S, n, hk⟩
    · obtain ⟨its, _, pl, _⟩ := I.list hq
      refine ⟨pl.isList.typeIs, fun a e => ?_⟩
      cases e
      obtain ⟨o, n, e, c, hd, _⟩ := pl
      exact ⟨o, e, hd⟩
    · refine ⟨⟨o, I.kIn p o hk, hc⟩, fun a e => ?_⟩
      cases e
      exact ⟨o, I.kIn _ o hk, hd⟩
    · have z : ∃ o, s.heap.get? p = some o ∧ o.ExactDict := by
        rcases hk with ⟨kvs, hk⟩ | ⟨kvs, hk⟩
        · obtain ⟨_, _, _, _, o, _, _, e, ex, _⟩ := I.hok p _ hk
          exact ⟨o, e, ex⟩
        · obtain ⟨_, _, _, _, o, _, _, e, ex, _⟩ := I.hok p _ hk
          exact ⟨o, e, ex⟩
      obtain ⟨o, e, ex⟩ := z
      refine ⟨⟨o, e, ex.1⟩, fun a e2 => ?_⟩
      cases e2
      exact ⟨o, e, ex.2.1⟩
    · obtain ⟨o, _, _, _, e, ex, _⟩ := I.hok p _ hk
      refine ⟨⟨o, e, ex.1⟩, fun a e2 => ?_⟩
      cases e2
      exact ⟨o, e, ex.2.1⟩
  | _ => exact False.elim ty
def tBM (K : PySem.W.Frag) (T : String) (r : V → List V → Hp → VK → Prop) (to : TE) (t : TA) : TE := fun σ H Q => to σ H fun x H1 => tyV K T x H1 ∧ t σ H1 fun xs H2 => r x xs H2 Q
variable {o e : Expr} {es : List Expr} {to : TE} {t : TA} {name : Str} {apos cpos : Pos} {T id : String} {r : V → List V → Hp → VK → Prop}
theorem pe_bm (pa : PlainAttrs T) (slot : Slot T name id) (hty : typeOf (.builtin id) = pure (.type "method_descriptor")) (hm : MtR X id r) (ho : PE X o to) (ha : PA X (e :: es) t)
    (hbase : attributeBase o name X.env (eval o X.env) = eval o X.env := by rfl)
    (hfew : ((backTo cpos (starEach (e :: es) X.env)).all (fun x => !x.1) && (backToKw cpos (keywordEach [] X.env)).all (fun x => x.1.isSome)
      && decide ((e :: es).length + ([] : List Keyword).length + (if ([] : List Keyword).isEmpty then 0 else 1) < 30)) = true := by rfl)
    (hline : (apos.endLine == cpos.line) = true := by rfl) (hs : starEach (e :: es) X.env = (false, eval e X.env) :: starEach es X.env := by rfl) (hplain : (backTo cpos (starEach es X.env)).any (·.1) = false := by rfl) :
    PE X (.Call (.Attribute o name apos) (e :: es) [] cpos) (tBM X.K T r to t) := by
  intro pins s σ H Q I h
  refine wpAny_Call_method_late hbase hfew hline rfl (thn (ho pins s σ H _ I h) fun v s1 ⟨x, H1, I1, r1, ty, q1⟩ => ?_)
  obtain ⟨h1, h2⟩ := tyV_is I1 r1 ty
  refine ⟨T, id, pa, slot, hty, h1, h2, ?_⟩
  have hA := ha cpos pins s1 σ H1 _ I1 q1
  rw [hs] at hA ⊢
  refine Calls.callWith_builtin (by show (false || (backTo cpos (starEach es X.env)).any (·.1)) = false; rw [hplain] <;> rfl) (Calls.evalArgs_plain ?_)
  exact thn hA fun us s2 ⟨vs, H2, I2, r2, q2⟩ => hm pins s2 σ H2 x vs v us Q I2 r1 r2 q2
/- xs.append(e), list.index on a module's tuple .. are MtR facts of 06m -/
end
end L2
namespace L2
open PySem PySem.Spec PyProof.Rows
def MtM (X : Cx) (id : String) (r : V → List V → Hp → VK → Prop) : Prop :=
  ∀ (pins : List (Addr × Obj)) (s : Shared) (σ : St) (H : Hp) (x : V) (xs : List V) (v : Value) (us : List Value) (Q : VK), Inv X pins σ H s → RelV x v → Vals xs us → r x xs H Q →
    wpAny (model X.prog X.w) X.A (call (.builtin id) (v :: us)) (EP X pins σ Q) X.xe s
theorem Vals.one : ∀ {x : V} {us : List Value}, Vals [x] us → ∃ u, us = [u] ∧ RelV x u
  | _, _, .cons r .nil => ⟨_, rfl, r⟩
theorem Vals.zero : ∀ {us : List Value}, Vals [] us → us = []
  | _, .nil => rfl
theorem Vals.reverse {xs : List V} {us : List Value} (h : Vals xs us) : Vals xs.reverse us.reverse := by
  induction h with
  | nil => exact .nil
  | cons r t ih => rw [List.reverse_cons, List.reverse_cons]; exact Vals.append ih (.cons r .nil)
theorem Vals.rep {xs : List V} {us : List Value} (h : Vals xs us) : ∀ k : Nat, Vals (List.replicate k xs).flatten (List.replicate k us).flatten
  | 0 => .nil
  | k + 1 => by
    rw [List.replicate_succ, List.replicate_succ, List.flatten_cons, List.flatten_cons]
    exact Vals.append h (Vals.rep h k)
theorem foldl_rep (its : List Value) : ∀ (k : Nat) (acc : List Value),
    List.foldl (fun x1 x2 => x1 ++ x2) acc.toArray (List.replicate k its.toArray) = (acc ++ (List.replicate k its).flatten).toArray
  | 0, acc => by simp
  | k + 1, acc => by
    have e : acc.toArray ++ its.toArray = (acc ++ its).toArray := by simp
    have e2 : (acc ++ its) ++ (List.replicate k its).flatten = acc ++ (List.replicate (k + 1) its).flatten := by
      rw [List.replicate_succ, List.flatten_cons, List.append_assoc]
    rw [← e2, ← foldl_rep its k (acc ++ its), ← e, List.replicate_succ, List.foldl_cons]
section
variable {X : Cx} {pins : List (Addr × Obj)} {σ : St} {H : Hp} {s : Shared} {l b : Addr} {xs ys zs : List V}
theorem Inv.lset {its its' : List Value} {n : Nat} {f : Array Value → Array Value} {t' : Nat} (I : Inv X pins σ H s) (hH : H l = some (.lst xs))
    (e : s.heap.get? l = some { cls := .type "list", data := .seq its.toArray n }) (hf : f its.toArray = its'.toArray) (hv : Vals ys its') (hz : ys.length ≤ sizeLine) :
    Inv X pins σ (upd H l (.lst ys)) { s with heap := s.heap.update l (Obj.mapSeq f), toks := t' } := by
  have q := PySem.IsL.update e f
  rw [hf] at q
  refine I.write (x := l) (e := l) (by rw [hH]; exact trivial) (.inl rfl) (fun b' u hb hu => (Heap.get?_update_other s.heap (Obj.mapSeq f) (Ne.symm hb)).trans hu) ⟨_, q⟩ ?_
  exact ⟨hz, its', _, hv, q⟩
theorem Inv.lnew {its : List Value} {t' : Nat} (I : Inv X pins σ H s) (hv : Vals ys its) (hz : ys.length ≤ sizeLine) :
    Inv X pins σ (upd H s.heap.objs.size (.lst ys)) { s with heap := s.heap.push { cls := .type "list", data := .seq its.toArray }, toks := t' } :=
  I.laid (fun _ _ q => Heap.get?_push_of_some _ q) (Nat.le_refl _) ⟨hz, its, 0, hv, Heap.get?_push_size _ rfl⟩
theorem Inv.fresh (I : Inv X pins σ H s) : H s.heap.objs.size = none := I.hok.fresh (Nat.le_refl _)
theorem Inv.lstM (I : Inv X pins σ H s) (hH : H l = some (.lst xs)) : xs.length ≤ sizeLine ∧ ∃ (its : List Value) (n : Nat), Vals xs its ∧ xs.length = its.length ∧ s.heap.get? l = some { cls := .type "list", data := .seq its.toArray n } := by
  obtain ⟨z, its, n, r, e⟩ := I.hok l _ hH
  exact ⟨z, its, n, r, r.length, e⟩
theorem notLongL {n : Nat} (h : n ≤ sizeLine) : Builtin.List.listTooLong n = false := by
  unfold Builtin.List.listTooLong
  exact decide_eq_false (by omega)
end
section
variable {X : Cx}
def rAppend : V → List V → Hp → VK → Prop := fun x vs H Q => ∃ l xs y, x = .ref l ∧ vs = [y] ∧ H l = some (.lst xs) ∧ xs.length < sizeLine ∧ Q .non (upd H l (.lst (xs ++ [y])))
theorem mt_append : MtM X "list.append" rAppend := by
  intro pins s σ H x vs v us Q I rx rv h
  obtain ⟨l, xs, y, rfl, rfl, hH, hz, q⟩ := h
  cases rx
  obtain ⟨u, rfl, ru⟩ := rv.one
  obtain ⟨z, its, n, r, hl, e⟩ := I.lstM hH
  refine call_meets F.slot_list_append ⟨_, e, rfl⟩ F.entry_list_append (F.args_list_append_2 _ _) (PySem.list_append l its.toArray n u (by rw [List.size_toArray]; omega)) ⟨e, ?_⟩
  refine ⟨.non, _, I.lset (its' := its ++ [u]) hH e (by simp) (r.append (.cons ru .nil)) ?_, rfl, q⟩
  rw [List.length_append, List.length_singleton]
  omega
def rCat : R2 := fun x y H Q => ∃ l b xs zs, x = .ref l ∧ y = .ref b ∧ H l = some (.lst xs) ∧ H b = some (.lst zs) ∧ xs.length + zs.length ≤ sizeLine ∧ ∀ p, H p = none → Q (.ref p) (upd H p (.lst (xs ++ zs)))
theorem op_cat : OpR X (binaryOp .Add) rCat := by
  intro pins s σ H x y v u Q I rx ry h
  obtain ⟨l, b, xs, zs, rfl, rfl, hH, hB, hz, q⟩ := h
  cases rx
  cases ry
  obtain ⟨z, its, n, r, hl, e⟩ := I.lstM hH
  obtain ⟨z2, its2, n2, r2, hl2, e2⟩ := I.lstM hB
  refine PySem.P.add_list e e2 ?_ (by rw [List.size_toArray, List.size_toArray]; omega)
  have ea : its.toArray ++ its2.toArray = (its ++ its2).toArray := by simp
  rw [ea]
  exact ⟨.ref _, _, I.lnew (t' := s.toks) (r.append r2) (by rw [List.length_append]; omega), rfl, q _ I.fresh⟩
def rRep : R2 := fun x y H Q => ∃ l k xs, x = .ref l ∧ y = .int k ∧ H l = some (.lst xs) ∧ -(2 ^ 63) ≤ k ∧ k < 2 ^ 63 ∧ xs.length * k.toNat ≤ sizeLine ∧
  ∀ p, H p = none → Q (.ref p) (upd H p (.lst (List.replicate k.toNat xs).flatten))
theorem len_rep {α : Type} (xs : List α) (k : Nat) : (List.replicate k xs).flatten.length = k * xs.length := by
  induction k with
  | zero => simp
  | succ k ih => rw [List.replicate_succ, List.flatten_cons, List.length_append, ih, Nat.succ_mul, Nat.add_comm]
theorem op_rep : OpR X (binaryOp .Mult) rRep := by
  intro pins s σ H x y v u Q I rx ry h
  obtain ⟨l, k, xs, rfl, rfl, hH, h1, h2, hz, q⟩ := h
  cases rx
  obtain ⟨t, rfl⟩ := ry
  obtain ⟨z, its, n, r, hl, e⟩ := I.lstM hH
  have hlen : its.toArray.size * k.toNat ≤ sizeLine := by rw [List.size_toArray, ← hl]; exact hz
  have hcap : ¬ its.toArray.size * k.toNat > (2 ^ 63 - 1) / 8 := by
    have : (sizeLine : Nat) ≤ (2 ^ 63 - 1) / 8 := by decide
    omega
  have hfit : ¬ (!Builtin.List.listFitsIndex k) = true := by
    rw [fitsIndex_both h1 h2]
    exact Bool.false_ne_true
  have hlong : ¬ Builtin.List.listTooLong (its.toArray.size * k.toNat) = true := by
    rw [notLongL hlen]
    exact Bool.false_ne_true
  have hnew : List.foldl (fun x1 x2 => x1 ++ x2) #[] (List.replicate (if its.toArray.isEmpty = true then 0 else k.toNat) its.toArray) = (List.replicate k.toNat its).flatten.toArray := by
    have f0 : ∀ m : Nat, List.foldl (fun x1 x2 => x1 ++ x2) #[] (List.replicate m its.toArray) = (List.replicate m its).flatten.toArray := fun m => by
      have := foldl_rep its m []
      rw [List.nil_append] at this
      exact this
    rw [f0]
    cases its with
    | nil => simp
    | cons a r' => rw [if_neg (by simp)]
  refine wpAny_binaryOp_repeat_ref (T := "list") (U := "int") (by decide) ⟨_, e, rfl⟩ (fun s' => typeIs_int s' k t) noFill_list_mul F.fills_int_mul F.slot_int_rmul repeat_list F.slot_int_index.lookup
    (call_meets F.slot_int_rmul (typeIs_int s k t) F.entry_int_rmul (F.args_int_rmul_2 _ _) (int___rmul___int_list k t l its.toArray n)
      ⟨e, rfl, ⟨_, e, rfl⟩, call_meets F.slot_list_mul ⟨_, e, rfl⟩ F.entry_list_mul (F.args_list_mul_2 _ _) (AutoListH.list___mul___list_int_3 l its.toArray n k t hfit hcap hlong) ⟨e, ?_⟩⟩)
  rw [hnew]
  exact ⟨.ref _, _, I.lnew (t' := s.toks) (r.rep k.toNat) (by rw [len_rep, Nat.mul_comm]; exact hz), rfl, q _ I.fresh⟩
end
section
variable {prog : Program} {w : World} {A : Around} {E : Value → Shared → Prop} {s : Shared}
end
section
variable {X : Cx}
end
end L2
namespace Att
open PySem PySem.W PySem.Calls PyProof.Rows
theorem ints_of_wellAll {P : Params} {h : Heap} : ∀ (ns : List Int) (vs : List Value), WellAll P h vs (ns.map WData.int) → IntsAre vs ns := by
  intro ns
  induction ns with
  | nil =>
    intro vs w
    rw [List.map_nil] at w
    cases w
    exact .nil
  | cons n ns ih =>
    intro vs w
    rw [List.map_cons] at w
    cases w with
    | cons a b =>
      cases a
      exact .cons _ _ (ih _ b)
theorem script_of {l : OpenLaw} {n : Nat} (hn : l.most = some n) {P : Params} {h : Heap} {args : List WData} {vals : List Value}
    (hpre : l.row.toRowW.claim.pre args = true) (hwl : WellAll P h vals args) :
    ∃ a vs ns, vals = [Value.ref a] ∧ args = [WData.list (ns.map WData.int)] ∧ h.get? a = some { cls := .type "list", data := .seq vs.toArray } ∧ IntsAre vs ns ∧ ns.length ≤ n := by
  have hsh : WShape.hasAll [] args [.list .int] = true := (pre_splitW hpre).1
  have hc : l.pre.holds [] { args := args } = true := (pre_splitW hpre).2
  obtain ⟨d, r, rfl, h1, h2⟩ := hasAllW_cons hsh
  obtain rfl := hasAllW_nil h2
  obtain ⟨xs, rfl, h3⟩ := hasW_list h1
  obtain ⟨ns, rfl⟩ := items_int h3
  have hlen : ns.length ≤ n := by
    unfold OpenLaw.pre at hc
    have h4 : (WTm.not (.lt (.lit (.int (n : Int))) (.len (.arg 0)))).holds [] { args := [.list (ns.map .int)] } = true := by
      have h4 := (holds_andW hc).1
      rw [hn] at h4
      exact h4
    have h5 := condW_of h4 (w_not (w_lt w_lit (w_len_list (w_arg rfl))))
    rw [List.length_map] at h5
    refine Nat.le_of_not_lt fun q => ?_
    have q' : (n : Int) < ((ns.length : Nat) : Int) := by omega
    first
      | (rw [decide_eq_true q'] at h5; exact absurd h5 (by decide))
      | (simp at h5; omega)
  cases hwl with
  | cons w1 w2 =>
    cases w2
    cases w1 with
    | list ho hall => exact ⟨_, _, ns, rfl, rfl, ho, ints_of_wellAll ns _ hall, hlen⟩
theorem post_true (l : OpenLaw) (args : List WData) : l.row.toRowW.claim.post args (.bool true) args = true :=
  postW_of (r := l.row.toRowW) (X := (true == true))
    (show WShape.has [] (.bool true) .bool = true by first | rfl | decide | simp [WShape.has, WShape.arms, WShape.armsAll])
    (show (WTm.eq .res (.lit (.bool true))).value [] { args := args, res := some (.bool true), after := args } = some (.bool (true == true)) from w_eq_bool (w_res rfl) w_lit) rfl
theorem attach_call {l : OpenLaw} {n : Nat} {q : Program} {loose : List Str} {XP : (Str → Option Value) → Heap → Prop} {YP : World → Heap → Prop} {d : DefRec}
    (hn : l.most = some n) (hdf : d.params.defaults = [])
    (call : ∀ (w : World) (s₀ s₁ : Shared) (mg mb : Str → Option Value) (fa : Addr) (o : Obj) (pm cd doc : Value) (a : Addr) (vs : List Value) (ns : List Int),
      Ground q loose [] XP w s₀ mg mb s₁.heap → YP w s₁.heap →
      s₁.heap.get? fa = some o → o.data = .func (docDef d.name d.params d.body d.scope pm cd doc) → s₁.heap.CodeRec cd d.name → mg d.name = some (.ref fa) →
      s₁.heap.get? a = some { cls := .type "list", data := .seq vs.toArray } → IntsAre vs ns → ns.length ≤ n → s₁.gens = #[] →
      codeAny (model l.prog w) callerA (.call (.ref fa) ⟨[.ref a], []⟩) (fun r s' => r = .ok (.ret (.bool true)) ∧ OldK s₁.heap s'.heap ∧ s'.os = s₁.os ∧ AllBare s'.gens) s₁) :
    WalkO q loose XP YP l.row.toRowW d [] (fun f vs => PySem.call f vs) := by
  intro w s₀ s₁ mg mb G Y fa o pm cd doc dV kV ho hd hcd hD hmg hg args vals as hpre hlay hrd hwl hlo
  obtain rfl : dV = .none := Dflts.none hD hdf
  obtain rfl : kV = .none := Dflts.noKw hD
  obtain ⟨a, vs, ns, rfl, rfl, hobj, hints, hlen⟩ := script_of hn hpre hwl
  refine enter_call (codeAny_mono (call w s₀ s₁ mg mb fa o pm cd doc a vs ns G Y ho (fd_plain hd) hcd hmg hobj hints hlen hg) fun r s' hq => ?_)
  obtain ⟨rfl, h2, h3, h4⟩ := hq
  exact ⟨.inl ⟨.bool true, .bool true, [], rfl, fun _ => rfl, .bool true, post_true l _, fun _ => ⟨List.Pairwise.nil, fun _ hm => (nomatch hm)⟩⟩, h2, h3, h4⟩
section
variable {prog : Program} {w : World} {A : Around} {E : Value → Shared → Prop} {s : Shared} {K : Frag}
end
end Att
namespace L2
open PySem PySem.Spec PyProof.Rows
theorem vals_ints : ∀ {vs : List Value} {ns : List Int}, IntsAre vs ns → Vals (ns.map V.int) vs
  | _, _, .nil => .nil
  | _, _, .cons n t h => .cons ⟨t, rfl⟩ (vals_ints h)
end L2
namespace L2
open PySem PySem.Spec PyProof.Rows
end L2
namespace L2
open PySem PySem.Spec PyProof.Rows
def defArgs (s : Stmt) : Arguments := match s with
  | .FunctionDef _ a _ _ _ _ _ _ _ _ => a
  | _ => { posonlyargs := [], args := [], vararg := none, kwonlyargs := [], kw_defaults := [], kwarg := none, defaults := [] }
def defBody (s : Stmt) : List Stmt := match s with
  | .FunctionDef _ _ b _ _ _ _ _ _ _ => b
  | _ => []
def defScope (s : Stmt) : Scope := match s with
  | .FunctionDef _ _ _ _ _ _ sc _ _ _ => sc
  | _ => { kind := .function, names := [], isGenerator := false, isCoroutine := false }
abbrev CX0 : CXT := fun _ _ _ _ _ _ => False
abbrev E0 : XK := fun _ _ _ => False
theorem pass0 {X : Cx} : Passes CX0 X E0 := fun _ _ _ _ _ _ _ h => h.elim
structure Fun (K : PySem.W.Frag) (x qual : Str) (st : Stmt) (f : Addr) (fd : FuncData) : Prop where
  ex : ∃ (oc : Value) (od : Option Addr) (kV doc pm : Value) (an : Option Addr) (cdv ct : Value) (osl : Array (Option Value)),
    fd = PySem.W.fnOf x qual (defArgs st) (defBody st) (defScope st) .none kV doc pm an cdv ct ∧ K.lookup f = some ⟨oc, od, .func fd, osl⟩ ∧ PySem.W.codeIn K cdv qual = true
  kp : PySem.W.keepIn K (.ref f) = true
section
variable {P : Program} {w : World} {K : PySem.W.Frag} {mg : Str → Option Value} {base : Heap}
theorem Fun.ok {x qual : Str} {st : Stmt} {f : Addr} {fd : FuncData} {N ps : List Str} {k : Nat} {sp : Sp} (F : Fun K x qual st f fd) (S : FnScope N ps (defScope st)) (len : ∀ vs H Q E, sp vs H Q E → vs.length = ps.length)
    (hbody : ∀ (cdv : Value) (A : Around) (outer : List Env) (s : Shared) (H : Hp) (vs : List V) (Q : VK) (E : XK), Room k (A.deeper (envOfC qual (defScope st) s.heap.objs.size f cdv)) → sp vs H Q E →
      ∃ t, PSs (cxOf CX0 P w K mg base N qual (defScope st) f cdv A outer s H E).nox (defBody st) t ∧ t { nx := fun _ H' => Q .non H', rt := Q } (start N vs) H) : FnOk P w K mg base CX0 (k + 1) f fd ps sp := by
  obtain ⟨oc, od, kV, doc, pm, an, cdv, ct, osl, rfl, lk, hcd⟩ := F.ex
  refine fn_of lk hcd S len fun A outer s H vs Q E hr hsp => ?_
  obtain ⟨t, h, q⟩ := hbody cdv A outer s H vs Q E hr hsp
  exact ⟨t, h.nox, q⟩
theorem Fun.binds {x qual : Str} {st : Stmt} {f : Addr} {fd : FuncData} {ps : List Str} (F : Fun K x qual st f fd)
    (h : ∀ (kV doc pm : Value) (an : Option Addr) (cdv ct : Value) (us : List Value), us.length = ps.length → bindArgs (PySem.W.fnOf x qual (defArgs st) (defBody st) (defScope st) .none kV doc pm an cdv ct) ⟨us, []⟩ = pure (ps.zip us)) : Binds K fd ps [] := by
  obtain ⟨oc, od, kV, doc, pm, an, cdv, ct, osl, rfl, lk, hcd⟩ := F.ex
  exact .all (h kV doc pm an cdv ct)
theorem fun_mk {x qual : Str} {st : Stmt} {f : Addr} {oc : Value} {od an : Option Addr} {osl : Array (Option Value)} {kV doc pm cdv ct : Value} (l : K.lookup f = some ⟨oc, od, .func (PySem.W.fnOf x qual (defArgs st) (defBody st) (defScope st) .none kV doc pm an cdv ct), osl⟩)
    (c : PySem.W.codeIn K cdv qual = true) (k : PySem.W.keepIn K (.ref f) = true) : Fun K x qual st f (PySem.W.fnOf x qual (defArgs st) (defBody st) (defScope st) .none kV doc pm an cdv ct) := ⟨⟨oc, od, kV, doc, pm, an, cdv, ct, osl, rfl, l, c⟩, k⟩
end
section
variable {X : Cx}
theorem pv (i : Nat) {x : Str} {pos : Pos} (hN : X.N[i]? = some x := by rfl) (hv : Vis X.env.scope x := by first | exact Or.inl rfl | exact Or.inr (Or.inl rfl) | exact Or.inr (Or.inr rfl)) (hd : (x == ("__debug__" : Str)) = false := by decide)
    (hcd : (x == ("__classdict__" : Str)) = false := by decide) : PE X (.Name x pos) (tVar i) := pe_var hN hv hd hcd
end
theorem iteF {A B : Prop} (h : B) : if false = true then A else B := by
  rw [if_neg Bool.false_ne_true]
  exact h
theorem iteT {A B : Prop} (h : A) : if true = true then A else B := by
  rw [if_pos rfl]
  exact h
theorem ite2 {c A B : Prop} [Decidable c] (h1 : c → A) (h2 : ¬ c → B) : if c then A else B := by
  by_cases h : c
  · rw [if_pos h]
    exact h1 h
  · rw [if_neg h]
    exact h2 h
def Same (H H' : Hp) : Prop := ∀ b o, H b = some o → H' b = some o
theorem Same.refl (H : Hp) : Same H H := fun _ _ h => h
theorem Same.trans {H H1 H2 : Hp} (a : Same H H1) (b : Same H1 H2) : Same H H2 := fun c o h => b c o (a c o h)
theorem Same.free {H H' : Hp} (e : Same H H') {l : Addr} (h : H' l = Option.none) : H l = Option.none := by
  cases q : H l with
  | none => rfl
  | some o =>
    rw [e l o q] at h
    cases h
theorem Same.seq {K : PySem.W.Frag} {H H' : Hp} {a : Addr} {xs : List V} (e : Same H H') (h : SqL K H a xs) : SqL K H' a xs := by
  rcases h with (h | ⟨o, h⟩) | h
  · exact .inl (.inl (e _ _ h))
  · exact .inl (.inr ⟨o, e _ _ h⟩)
  · exact .inr h
end L2
namespace L2
open PySem PySem.Spec PyProof.Rows
section
variable {κ : Type} [DecidableEq κ]
def valV (kvs : List (κ × V)) (k : κ) : Option V := (kvs.find? fun kv => decide (kv.1 = k)).map (·.2)
def putK (kvs : List (κ × V)) (k : κ) (v : V) : List (κ × V) :=
  if (kvs.any fun kv => decide (kv.1 = k)) = true then kvs.map (fun kv => if kv.1 = k then (kv.1, v) else kv) else kvs ++ [(k, v)]
def dropK (kvs : List (κ × V)) (k : κ) : List (κ × V) := kvs.filter fun kv => decide (kv.1 ≠ k)
theorem valV_pos {p : κ × V} {r : List (κ × V)} {k : κ} (e : p.1 = k) : valV (p :: r) k = some p.2 := by simp [valV, List.find?_cons, e]
theorem valV_neg {p : κ × V} {r : List (κ × V)} {k : κ} (e : ¬ p.1 = k) : valV (p :: r) k = valV r k := by simp [valV, List.find?_cons, e]
theorem valV_any (k : κ) : ∀ kvs : List (κ × V), (kvs.any fun kv => decide (kv.1 = k)) = (valV kvs k).isSome
  | [] => rfl
  | p :: r => by
    rw [List.any_cons]
    by_cases e : p.1 = k
    · simp only [valV_pos e, decide_eq_true e, Bool.true_or, Option.isSome_some]
    · rw [valV_neg e, decide_eq_false e, Bool.false_or]; exact valV_any k r
theorem RelO.isSome_eq {o : Option V} {u : Option Value} (r : RelO o u) : o.isSome = u.isSome := by
  cases o with
  | none => cases u with
    | none => rfl
    | some _ => exact (show False from r).elim
  | some _ => cases u with
    | none => exact (show False from r).elim
    | some _ => rfl
theorem RelO.getD {o : Option V} {u : Option Value} {d : V} {d' : Value} (r : RelO o u) (rd : RelV d d') : RelV (o.getD d) (u.getD d') := by
  cases o with
  | none => cases u with
    | none => exact rd
    | some _ => exact (show False from r).elim
  | some _ => cases u with
    | none => exact (show False from r).elim
    | some _ => exact r
theorem KV.val {kvs : List (κ × V)} {vs : List (κ × Value)} (r : KV kvs vs) (k : κ) : RelO (valV kvs k) (valueAt vs k) := by
  unfold KV at r
  induction r with
  | nil => exact True.intro
  | @cons p q ps qs h t ih =>
    obtain ⟨h1, h2⟩ := h
    by_cases e : p.1 = k
    · have e' : q.1 = k := h1.symm.trans e
      have b : valueAt (q :: qs) k = some q.2 := by simp [valueAt, List.find?_cons, e']
      rw [valV_pos e, b]; exact h2
    · have e' : ¬ q.1 = k := fun z => e (h1.trans z)
      have b : valueAt (q :: qs) k = valueAt qs k := by simp [valueAt, List.find?_cons, e']
      rw [valV_neg e, b]; exact ih
theorem KV.any {kvs : List (κ × V)} {vs : List (κ × Value)} (r : KV kvs vs) (k : κ) : (kvs.any fun kv => decide (kv.1 = k)) = vs.any fun kv => decide (kv.1 = k) := by
  unfold KV at r
  induction r with
  | nil => rfl
  | cons h t ih => rw [List.any_cons, List.any_cons, ih, h.1]
theorem KV.repl {kvs : List (κ × V)} {vs : List (κ × Value)} (r : KV kvs vs) (k : κ) {y : V} {u : Value} (ry : RelV y u) :
    KV (kvs.map fun kv => if kv.1 = k then (kv.1, y) else kv) (vs.map fun kv => if kv.1 = k then (kv.1, u) else kv) := by
  unfold KV at r ⊢
  induction r with
  | nil => exact .nil
  | @cons p q ps qs h t ih =>
    rw [List.map_cons, List.map_cons]
    refine .cons ?_ ih
    obtain ⟨h1, h2⟩ := h
    by_cases e : p.1 = k
    · rw [if_pos e, if_pos (h1.symm.trans e)]; exact ⟨h1, ry⟩
    · rw [if_neg e, if_neg (fun z => e (h1.trans z))]; exact ⟨h1, h2⟩
theorem KV.put {kvs : List (κ × V)} {vs : List (κ × Value)} (r : KV kvs vs) (k : κ) {y : V} {u : Value} (ry : RelV y u) : KV (putK kvs k y) (stored vs k u) := by
  unfold putK stored
  rw [r.any k]
  by_cases e : (vs.any fun kv => decide (kv.1 = k)) = true
  · rw [if_pos e, if_pos e]; exact r.repl k ry
  · rw [if_neg e, if_neg e]; exact Paired.snoc r ⟨rfl, ry⟩
theorem KV.drop {kvs : List (κ × V)} {vs : List (κ × Value)} (r : KV kvs vs) (k : κ) : KV (dropK kvs k) (without vs k) := by
  unfold KV at r ⊢
  unfold dropK without
  induction r with
  | nil => exact .nil
  | @cons p q ps qs h t ih =>
    obtain ⟨h1, h2⟩ := h
    rw [List.filter_cons, List.filter_cons]
    by_cases e : p.1 = k
    · have a : ¬ decide (p.1 ≠ k) = true := by simp [e]
      have b : ¬ decide (q.1 ≠ k) = true := by simp [h1.symm.trans e]
      rw [if_neg a, if_neg b]; exact ih
    · have e' : ¬ q.1 = k := fun z => e (h1.trans z)
      have a : decide (p.1 ≠ k) = true := by simp [e]
      have b : decide (q.1 ≠ k) = true := by simp [e']
      rw [if_pos a, if_pos b]; exact .cons ⟨h1, h2⟩ ih
theorem KV.keys {kvs : List (κ × V)} {vs : List (κ × Value)} (r : KV kvs vs) : kvs.map (·.1) = vs.map (·.1) := by
  unfold KV at r
  induction r with
  | nil => rfl
  | cons h t ih => rw [List.map_cons, List.map_cons, ih, h.1]
theorem KV.length {kvs : List (κ × V)} {vs : List (κ × Value)} (r : KV kvs vs) : kvs.length = vs.length := Paired.length r
end
abbrev KT (H : Hp) : List (List Key × V) → List (List Key × Addr × Value) → Prop := Paired fun p q => p.1 = q.1 ∧ H q.2.1 = some (.tup (p.1.map kV)) ∧ RelV p.2 q.2.2
theorem KT.val {H : Hp} {kvs : List (List Key × V)} {xs : List (List Key × Addr × Value)} (r : KT H kvs xs) (k : List Key) : RelO (valV kvs k) ((atKey xs k).map (·.2)) := by
  induction r with
  | nil => exact True.intro
  | @cons p q ps qs h t ih =>
    obtain ⟨h1, _, h2⟩ := h
    by_cases e : p.1 = k
    · have e' : q.1 = k := h1.symm.trans e
      have b : atKey (q :: qs) k = some q.2 := by simp [atKey, List.find?_cons, e']
      rw [valV_pos e, b]; exact h2
    · have e' : ¬ q.1 = k := fun z => e (h1.trans z)
      have b : atKey (q :: qs) k = atKey qs k := by simp [atKey, List.find?_cons, e']
      rw [valV_neg e, b]; exact ih
theorem KT.repl {H : Hp} {kvs : List (List Key × V)} {xs : List (List Key × Addr × Value)} (r : KT H kvs xs) (k : List Key) {y : V} {u : Value} (ry : RelV y u) :
    KT H (kvs.map fun kv => if kv.1 = k then (kv.1, y) else kv) (xs.map (putAt k u)) := by
  induction r with
  | nil => exact .nil
  | @cons p q ps qs h t ih =>
    rw [List.map_cons, List.map_cons]
    refine .cons ?_ ih
    obtain ⟨h1, h2, h3⟩ := h
    unfold putAt
    by_cases e : p.1 = k
    · rw [if_pos e, if_pos (h1.symm.trans e)]; exact ⟨h1, h2, ry⟩
    · rw [if_neg e, if_neg (fun z => e (h1.trans z))]; exact ⟨h1, h2, h3⟩
theorem KT.put {H : Hp} {kvs : List (List Key × V)} {xs : List (List Key × Addr × Value)} (r : KT H kvs xs) (k : List Key) {b : Addr} {y : V} {u : Value} (hb : H b = some (.tup (k.map kV))) (ry : RelV y u) :
    KT H (putK kvs k y) (storedH xs k b u) := by
  have e : (kvs.any fun kv => decide (kv.1 = k)) = (atKey xs k).isSome := by
    rw [valV_any, (r.val k).isSome_eq, Option.isSome_map]
  unfold putK storedH
  rw [e]
  by_cases q : (atKey xs k).isSome = true
  · rw [if_pos q, if_pos q]; exact r.repl k ry
  · rw [if_neg q, if_neg q]; exact Paired.snoc r ⟨rfl, hb, ry⟩
theorem KT.keeps {H H' : Hp} {kvs : List (List Key × V)} {xs : List (List Key × Addr × Value)} (r : KT H kvs xs) (ht : ∀ b ys, H b = some (.tup ys) → H' b = some (.tup ys)) : KT H' kvs xs :=
  Paired.mapP r fun _ _ z => ⟨z.1, ht _ _ z.2.1, z.2.2⟩
section
variable {P : Program} {w : World} {H : Hp} {h : Heap} {a : Addr}
end
def DGet (H : Hp) (a : Addr) (y : V) (r : Option V) : Prop :=
  (∃ kvs k, Rd H a (.dK kvs) ∧ y = kV k ∧ r = valV kvs k) ∨ ∃ kvs k b, Rd H a (.dT kvs) ∧ y = .ref b ∧ H b = some (.tup (k.map kV)) ∧ r = valV kvs k
def DPut (H : Hp) (a : Addr) (y v : V) (H' : Hp) : Prop :=
  (∃ kvs k, H a = some (.dK kvs) ∧ y = kV k ∧ kvs.length < sizeLine ∧ H' = upd H a (.dK (putK kvs k v))) ∨
  ∃ kvs k b, H a = some (.dT kvs) ∧ y = .ref b ∧ H b = some (.tup (k.map kV)) ∧ kvs.length < sizeLine ∧ H' = upd H a (.dT (putK kvs k v))
theorem DGet.k {H : Hp} {a : Addr} {kvs : List (Key × V)} {k : Key} (e : H a = some (.dK kvs)) : DGet H a (kV k) (valV kvs k) := .inl ⟨kvs, k, .inl e, rfl, rfl⟩
theorem DGet.t {H : Hp} {a b : Addr} {kvs : List (List Key × V)} {k : List Key} (e : H a = some (.dT kvs)) (eb : H b = some (.tup (k.map kV))) : DGet H a (.ref b) (valV kvs k) := .inr ⟨kvs, k, b, .inl e, rfl, eb, rfl⟩
theorem DPut.k {H : Hp} {a : Addr} {kvs : List (Key × V)} {k : Key} {v : V} (e : H a = some (.dK kvs)) (hl : kvs.length < sizeLine) : DPut H a (kV k) v (upd H a (.dK (putK kvs k v))) := .inl ⟨kvs, k, e, rfl, hl, rfl⟩
theorem DPut.t {H : Hp} {a b : Addr} {kvs : List (List Key × V)} {k : List Key} {v : V} (e : H a = some (.dT kvs)) (eb : H b = some (.tup (k.map kV))) (hl : kvs.length < sizeLine) :
    DPut H a (.ref b) v (upd H a (.dT (putK kvs k v))) := .inr ⟨kvs, k, b, e, rfl, eb, hl, rfl⟩
section
variable {X : Cx} {pins : List (Addr × Obj)} {σ : St} {H : Hp} {s : Shared} {a : Addr} {y v : V} {u r : Value} {o : Option V} {A : Around} {E : Value → Shared → Prop}
end
section
variable {X : Cx} {pins : List (Addr × Obj)} {σ : St} {H : Hp} {s : Shared} {a : Addr} {kvs : List (Key × V)} {k : Key} {u : Value} {A : Around} {E : Value → Shared → Prop}
end
section
variable {X : Cx} {o i e value : Expr} {pos pos' tpos : Pos} {td ty tv : TE}
end
section
variable {X : Cx} {pos : Pos}
end
structure M1 (X : Cx) (o : Expr) (m : Str) (apos : Pos) (e : Expr) (cpos : Pos) : Prop where
  base : attributeBase o m X.env (eval o X.env) = eval o X.env
  few : ((backTo cpos (starEach [e] X.env)).all (fun x => !x.1) && (backToKw cpos (keywordEach [] X.env)).all (fun x => x.1.isSome)
    && decide (([e] : List Expr).length + ([] : List Keyword).length + (if ([] : List Keyword).isEmpty then 0 else 1) < 30)) = true
  line : (apos.endLine == cpos.line) = true
  trees : backTo cpos (starEach [e] X.env) = [(false, eval e X.env)]
structure M2 (X : Cx) (o : Expr) (m : Str) (apos : Pos) (e f : Expr) (cpos : Pos) : Prop where
  base : attributeBase o m X.env (eval o X.env) = eval o X.env
  few : ((backTo cpos (starEach [e, f] X.env)).all (fun x => !x.1) && (backToKw cpos (keywordEach [] X.env)).all (fun x => x.1.isSome)
    && decide (([e, f] : List Expr).length + ([] : List Keyword).length + (if ([] : List Keyword).isEmpty then 0 else 1) < 30)) = true
  line : (apos.endLine == cpos.line) = true
  trees : backTo cpos (starEach [e, f] X.env) = [(false, eval e X.env), (false, eval f X.env)]
section
variable {X : Cx} {pins : List (Addr × Obj)} {σ : St} {H : Hp} {s : Shared} {a : Addr} {y d : V} {u r : Value} {o : Option V} {A : Around} {E : Value → Shared → Prop}
end
section
variable {X : Cx} {o e f : Expr} {apos cpos : Pos} {td ty tx : TE}
end
section
variable {X : Cx} {pins : List (Addr × Obj)} {σ : St} {H : Hp} {s : Shared} {a : Addr} {kvs : List (Key × V)} {A : Around} {E : Value → Shared → Prop}
end
section
variable {X : Cx} {pins : List (Addr × Obj)} {σ : St} {H : Hp} {s : Shared} {a : Addr} {y : V} {u : Value} {A : Around} {E : Value → Shared → Prop}
end
end L2
set_option maxHeartbeats 4000000
namespace L2
open PySem PySem.Spec PyProof.Rows
def Its (x : Str) : It := ⟨fun i _ => i < x.cps.size, fun i H v H' => H' = H ∧ ∃ c, x.cps[i]? = some c ∧ v = .str ⟨#[c]⟩, fun i _ => i = x.cps.size⟩
theorem walks_sign {P : Program} {w : World} {A : Around} (hh : A.handled = none) (it : Addr) (x : Str) (t : Tok) {ty : String} (hty : ty = "str_ascii_iterator" ∨ ty = "str_iterator") :
    Walks P w A it [it] [it] x.cps.size (SignAt x) (fun i h => h.IsStrIter it ty x t i) := by
  rcases hty with rfl | rfl
  · exact Walks.strAscii hh it x t
  · exact Walks.strWide hh it x t
theorem turn_str {P : Program} {w : World} {K : PySem.W.Frag} {tg : Expr} (x : Str) (t : Tok) (it : Addr) {ty : String} (hty : ty = "str_ascii_iterator" ∨ ty = "str_iterator") :
    Turn P w K tg (Its x) [it] it (fun i h => h.IsStrIter it ty x t i) where
  mem := by simp
  obj := fun i h st b hb => by
    have e : b = it := by simpa using hb
    subst e
    obtain ⟨o, e, c, d⟩ := st
    exact ⟨o, e, fun v z => by rw [d] at z; cases z⟩
  keep := fun i h h' st k => let ⟨o, e, r⟩ := st; ⟨o, k it (by simp) o e, r⟩
  item := by
    intro X hP hw hK hc i pins s σ H E I hf st hg
    subst hP hw hK
    obtain ⟨f0, f1, f2, f3, f4, f5⟩ := hf it (by simp)
    refine (walks_sign (I.ok.hd hc) it x t hty).item i s _ _ hg st fun v h' tk hv st' kk => ?_
    obtain ⟨c, u, hx, rfl⟩ := hv
    have I1 : Inv X pins σ H { s with heap := h', toks := tk } := I.turned (fun b o hb e => kk b o (by simpa using hb) e) f0 f1 f3 f4 f5
    obtain ⟨o, e, cc, d⟩ := id st'
    refine ⟨_, rfl, go_of (s := { s with heap := h', toks := tk }) e cc d ?_ ⟨.str ⟨#[c]⟩, H, I1, ⟨u, rfl⟩, ⟨rfl, c, hx, rfl⟩, st', fun b hb => (hf b hb).1⟩⟩
    rcases hty with rfl | rfl <;> decide
  done := by
    intro X hP hw hK hc i pins s σ H E I hf st hg
    subst hP hw hK
    obtain ⟨f0, f1, f2, f3, f4, f5⟩ := hf it (by simp)
    have hg' : i = x.cps.size := hg
    subst hg'
    exact (walks_sign (I.ok.hd hc) it x t hty).done s _ _ st fun h' tk kk => ⟨rfl, I.turned (fun b o hb e => kk b o (by simpa using hb) e) f0 f1 f3 f4 f5⟩
  self := fun A i s Q E st h => by
    rcases hty with rfl | rfl
    · exact wpAny_pyIter_striter_ascii st h
    · exact wpAny_pyIter_striter_wide st h
section
variable {X : Cx} {tg : Expr}
def iStr (tl : TE) : TI := fun σ H R => tl σ H fun x H1 => ∃ z, x = .str z ∧ R (Its z) H1
theorem pi_str {l : Expr} {tl : TE} (hl : PE X l tl) : PI X tg l (iStr tl) := by
  intro pins s σ H R I h
  refine thn (hl pins s σ H _ I h) fun v s1 ⟨x, H1, I1, r1, q1⟩ => ?_
  obtain ⟨z, e, q⟩ := q1
  subst e
  obtain ⟨t, rfl⟩ := r1
  refine wpAny_pyIter_strU ?_
  refine ⟨s1.heap.objs.size, [s1.heap.objs.size], _, _, H1, rfl, I1.kept (t' := s1.toks) fun b o e => Heap.get?_push_of_some _ e, turn_str z t _ (ty := strIterType z) (by unfold strIterType; split <;> simp), ⟨_, Heap.get?_push_size _ rfl, rfl, rfl⟩, fun b hb => ?_, q⟩
  have e : b = s1.heap.objs.size := by simpa using hb
  subst e
  exact I1.fpOk (Nat.le_refl _) (I1.hok.fresh (Nat.le_refl _))
end
def pick (ix : List Nat) (σ : St) : St := ix.map fun i => (σ[i]?).join
def closOf (scope : Scope) (env : Env) : List (Str × Addr) := scope.names.foldl (fun cs y => if y.2 == .free then (y.1, (env.cells.lookup y.1).getD 0) :: cs else cs) []
theorem clos_mem (env : Env) : ∀ (l : List (Str × NameKind)) (acc : List (Str × Addr)) (p : Str × Addr), p ∈ l.foldl (fun cs y => if y.2 == NameKind.free then (y.1, (env.cells.lookup y.1).getD 0) :: cs else cs) acc →
    p ∈ acc ∨ ((p.1, NameKind.free) ∈ l ∧ p.2 = (env.cells.lookup p.1).getD 0)
  | [], _, _, h => .inl h
  | y :: l, acc, p, h => by
    rw [List.foldl_cons] at h
    rcases clos_mem env l _ p h with h1 | h1
    · by_cases hy : (y.2 == NameKind.free) = true
      · rw [if_pos hy] at h1
        rcases List.mem_cons.mp h1 with e | e
        · refine .inr ⟨?_, by rw [e]⟩
          have hk : y.2 = NameKind.free := by simpa using hy
          rw [e, ← hk]
          exact List.mem_cons_self
        · exact .inl e
      · rw [if_neg hy] at h1
        exact .inl h1
    · exact .inr ⟨List.mem_cons_of_mem _ h1.1, h1.2⟩
theorem clos_acc (env : Env) : ∀ (l : List (Str × NameKind)) (acc : List (Str × Addr)) (p : Str × Addr), p ∈ acc → p ∈ l.foldl (fun cs y => if y.2 == NameKind.free then (y.1, (env.cells.lookup y.1).getD 0) :: cs else cs) acc
  | [], _, _, h => h
  | y :: l, acc, p, h => by
    rw [List.foldl_cons]
    apply clos_acc env l
    split
    · exact List.mem_cons_of_mem _ h
    · exact h
theorem clos_has (env : Env) : ∀ (l : List (Str × NameKind)) (acc : List (Str × Addr)) (x : Str), (x, NameKind.free) ∈ l → ∃ c, (x, c) ∈ l.foldl (fun cs y => if y.2 == NameKind.free then (y.1, (env.cells.lookup y.1).getD 0) :: cs else cs) acc
  | [], _, _, h => nomatch h
  | y :: l, acc, x, h => by
    rw [List.foldl_cons]
    rcases List.mem_cons.mp h with e | e
    · subst e
      refine ⟨(env.cells.lookup x).getD 0, clos_acc env l _ _ ?_⟩
      rw [if_pos (by rfl)]
      exact List.mem_cons_self
    · exact clos_has env l _ x e
theorem lookup_some_of_mem {α : Type} : ∀ {l : List (Str × α)} {x : Str} {c : α}, (x, c) ∈ l → ∃ d, l.lookup x = some d
  | [], _, _, h => nomatch h
  | (y, d) :: l, x, c, h => by
    by_cases hx : (x == y) = true
    · exact ⟨d, by simp [List.lookup_cons, hx]⟩
    · have hx' : (x == y) = false := by simpa using hx
      rcases List.mem_cons.mp h with e | e
      · cases e
        simp at hx
      · obtain ⟨d', e'⟩ := lookup_some_of_mem e
        exact ⟨d', by simp [List.lookup_cons, hx', e']⟩
theorem clos_get {scope : Scope} {env : Env} (hf : ∀ y ∈ scope.names, y.2 = .free → ∃ c, env.cells.lookup y.1 = some c) {x : Str} {c : Addr} (h : (closOf scope env).lookup x = some c) : env.cells.lookup x = some c := by
  rcases clos_mem env scope.names [] (x, c) (PySem.mem_of_lookup h) with e | ⟨e1, e2⟩
  · exact nomatch e
  · obtain ⟨d, hd⟩ := hf _ e1 rfl
    have hd' : env.cells.lookup x = some d := hd
    have e3 : c = (env.cells.lookup x).getD 0 := e2
    rw [hd'] at e3 ⊢
    rw [e3]
    rfl
theorem clos_look {scope : Scope} {env : Env} {x : Str} (h : scope.names.lookup x = some .free) : ∃ c, (closOf scope env).lookup x = some c := by
  obtain ⟨c, hc⟩ := clos_has env scope.names [] x (PySem.mem_of_lookup h)
  exact lookup_some_of_mem hc
theorem closureFor_of {scope : Scope} {env : Env} (hf : ∀ y ∈ scope.names, y.2 = .free → ∃ c, env.cells.lookup y.1 = some c) : closureFor scope env = pure (closOf scope env) := by
  have all : ∀ (l : List (Str × NameKind)) (acc : List (Str × Addr)), (∀ y ∈ l, y.2 = .free → ∃ c, env.cells.lookup y.1 = some c) →
      (forIn l acc fun (x : Str × NameKind) (r : List (Str × Addr)) => if (x.2 == NameKind.free) = true then (do let a ← cellOf env x.1; pure (ForInStep.yield ((x.1, a) :: r))) else pure (ForInStep.yield r) : Sem (List (Str × Addr))) =
        pure (l.foldl (fun cs y => if y.2 == .free then (y.1, (env.cells.lookup y.1).getD 0) :: cs else cs) acc) := by
    intro l
    induction l with
    | nil => intro acc _; rfl
    | cons y l ih =>
      intro acc h
      rw [List.forIn_cons, List.foldl_cons]
      by_cases hy : (y.2 == NameKind.free) = true
      · obtain ⟨c, hc⟩ := h y List.mem_cons_self (by simpa using hy)
        rw [if_pos hy, if_pos hy]
        have e : cellOf env y.1 = pure c := by unfold cellOf; rw [hc]
        rw [e, hc]
        exact ih _ fun z hz => h z (List.mem_cons_of_mem _ hz)
      · rw [if_neg hy, if_neg hy]
        exact ih _ fun z hz => h z (List.mem_cons_of_mem _ hz)
  show ((forIn scope.names [] fun (x : Str × NameKind) (r : List (Str × Addr)) => if (x.2 == NameKind.free) = true then (do let a ← cellOf env x.1; pure (ForInStep.yield ((x.1, a) :: r))) else pure (ForInStep.yield r) : Sem (List (Str × Addr))) >>= fun r => pure r) = _
  rw [all scope.names [] hf]
  rfl
structure LcScope (scope : Scope) (x : Str) (fv : List Str) (osc : Scope) : Prop where
  kind : scope.kind = .function
  nocell : ∀ y ∈ scope.names, y.2 ≠ .cell
  names : ∀ y ∈ scope.names, y.2 = .local → scope.names.lookup y.1 = some .local
  tgt : scope.names.lookup x = some .local
  free : ∀ y ∈ scope.names, y.2 = .free → osc.names.lookup y.1 = some .cell ∨ osc.names.lookup y.1 = some .free
  fvs : ∀ y ∈ fv, scope.names.lookup y = some .free
  nd : (x :: fv).Nodup
theorem relabel_free {scope : Scope} {env : Env} : ∀ {names : List (Str × NameKind)} {x : Str}, names.lookup x = some .free →
    (names.map fun (n, k) => if (k == NameKind.free && env.scope.kind == .function && env.kindOf n == some .cell) then (n, NameKind.cell) else (n, k)).lookup x = some .cell ∨
    (names.map fun (n, k) => if (k == NameKind.free && env.scope.kind == .function && env.kindOf n == some .cell) then (n, NameKind.cell) else (n, k)).lookup x = some .free
  | [], _, h => by simp at h
  | (n, k) :: r, x, h => by
    have ih := @relabel_free scope env r x
    show List.lookup x ((if (k == NameKind.free && env.scope.kind == .function && env.kindOf n == some .cell) = true then (n, NameKind.cell) else (n, k)) :: _) = _ ∨ List.lookup x ((if (k == NameKind.free && env.scope.kind == .function && env.kindOf n == some .cell) = true then (n, NameKind.cell) else (n, k)) :: _) = _
    cases hx : x == n with
    | true =>
      simp only [List.lookup_cons, hx] at h
      cases h
      by_cases hc : (NameKind.free == NameKind.free && env.scope.kind == .function && env.kindOf n == some .cell) = true
      · rw [if_pos hc]; left; simp [List.lookup_cons, hx]
      · rw [if_neg hc]; right; simp [List.lookup_cons, hx]
    | false =>
      simp only [List.lookup_cons, hx] at h
      by_cases hc : (k == NameKind.free && env.scope.kind == .function && env.kindOf n == some .cell) = true
      · rw [if_pos hc]; simp only [List.lookup_cons, hx]; exact ih h
      · rw [if_neg hc]; simp only [List.lookup_cons, hx]; exact ih h
theorem relabel_back {env : Env} : ∀ {names : List (Str × NameKind)} {x : Str}, (∀ y ∈ names, y.2 ≠ NameKind.cell) →
    ((names.map fun (n, k) => if (k == NameKind.free && env.scope.kind == .function && env.kindOf n == some .cell) then (n, NameKind.cell) else (n, k)).lookup x = some .cell ∨
    (names.map fun (n, k) => if (k == NameKind.free && env.scope.kind == .function && env.kindOf n == some .cell) then (n, NameKind.cell) else (n, k)).lookup x = some .free) → names.lookup x = some .free
  | [], _, _, h => by simp at h
  | (n, k) :: r, x, hn, h => by
    have ih := @relabel_back env r x fun y hy => hn y (List.mem_cons_of_mem _ hy)
    have hk := hn (n, k) List.mem_cons_self
    change List.lookup x ((if (k == NameKind.free && env.scope.kind == .function && env.kindOf n == some .cell) = true then (n, NameKind.cell) else (n, k)) :: _) = _ ∨ List.lookup x ((if (k == NameKind.free && env.scope.kind == .function && env.kindOf n == some .cell) = true then (n, NameKind.cell) else (n, k)) :: _) = _ at h
    cases hx : x == n with
    | true =>
      by_cases hc : (k == NameKind.free && env.scope.kind == .function && env.kindOf n == some .cell) = true
      · have hf : k = NameKind.free := by
          rw [Bool.and_eq_true, Bool.and_eq_true] at hc
          simpa using hc.1.1
        subst hf
        simp [List.lookup_cons, hx]
      · rw [if_neg hc] at h
        simp only [List.lookup_cons, hx] at h ⊢
        rcases h with h | h
        · cases h; exact absurd rfl hk
        · exact h
    | false =>
      by_cases hc : (k == NameKind.free && env.scope.kind == .function && env.kindOf n == some .cell) = true
      · rw [if_pos hc] at h; simp only [List.lookup_cons, hx] at h ⊢; exact ih h
      · rw [if_neg hc] at h; simp only [List.lookup_cons, hx] at h ⊢; exact ih h
def Cx.comp (X : Cx) (scope : Scope) (N' : List Str) (C : Addr) (s₀ : Shared) (H₀ : Hp) (ex : List Addr) : Cx where
  prog := X.prog
  w := X.w
  K := X.K
  mg := X.mg
  base := X.base
  A := X.A
  N := N'
  s₀ := s₀
  H₀ := H₀
  env := compEnvC scope (closOf scope X.env) C X.env
  outer := X.stack
  stack := X.stack
  ex := ex
  fn := fun _ => false
  calm := X.calm
  pn := []
  xe := fun _ _ => False
def PIfs (X : Cx) (ifs : List Expr) (t : TT) : Prop :=
  ∀ (pins : List (Addr × Obj)) (s : Shared) (σ : St) (H : Hp) (Q : Bool → Hp → Prop), Inv X pins σ H s → t σ H Q →
    wpAny (model X.prog X.w) X.A (forIn ifs true fun c r => if r = true then do let ok ← isTrue c X.env (eval c X.env); pure (ForInStep.yield ok) else pure (ForInStep.yield r)) (TP X pins σ Q) X.xe s
def tYes : TT := fun _ H Q => Q true H
theorem pifs_nil {X : Cx} : PIfs X [] tYes := fun _ _ _ H _ I h => wpAny_tests_nil ⟨H, I, h⟩
theorem pifs_one {X : Cx} {c : Expr} {t : TT} (h : PT X c t) : PIfs X [c] t := fun pins s σ H Q I q => wpAny_tests_one (h pins s σ H Q I q)
def LcW (J : It) (ix : List Nat) (σ : St) (tt : TT) (te : TE) (Q : VK) (H1 : Hp) : Prop := ∃ W : Nat → Nat → List V → Hp → Prop, (∃ m, W 0 m [] H1) ∧ ∀ i m ys H2, W i m ys H2 →
  (J.stop i H2 ∧ ∀ D, H2 D = none → Q (.ref D) (upd H2 D (.lst ys))) ∨
  (J.go i H2 ∧ ys.length < sizeLine ∧ ∀ x H3, J.yld i H2 x H3 → tt (some x :: pick ix σ) H3 fun b H4 => if b = true then te (some x :: pick ix σ) H4 fun y H5 => ∃ m', m' < m ∧ W (i + 1) m' (ys ++ [y]) H5 else ∃ m', m' < m ∧ W (i + 1) m' ys H4)
def tLC (ix : List Nat) (wi : TI) (tt : TT) (te : TE) : TE := fun σ H Q => wi σ H fun J H1 => LcW J ix σ tt te Q H1
theorem codeAny_compLoop_own {prog : Program} {w : World} {A : Around} {R : Result → Shared → Prop} {s : Shared} {elt target iter : Expr} {ifs : List Expr} {scope : Scope} {pos : Pos} {it acc : Value} {env : Env} (I : Nat → Shared → Prop)
    (turn : ∀ n s, I n s → wpAny (model prog w) A (pyNext it) (fun r s₁ => match r with
      | none => R (.ok .next) s₁
      | some v => wpAny (model prog w) A (letOwnedTupleGo target it v) (fun _ s₁ => wpAny (model prog w) A (assign target env v) (fun _ s₂ =>
          wpAny (model prog w) A (forIn ifs true fun c r => if r = true then do let ok ← isTrue c env (eval c env); pure (ForInStep.yield ok) else pure (ForInStep.yield r)) (fun ok s₃ =>
            if ok = true then wpAny (model prog w) A (eval elt env) (fun x s₄ =>
              wpAny (model prog w) A (call (.builtin "list.append") [acc, x]) (fun _ s₅ => ∃ m, m < n ∧ I m s₅) (fun _ _ => False) s₄) (fun _ _ => False) s₃
            else ∃ m, m < n ∧ I m s₃) (fun _ _ => False) s₂) (fun _ _ => False) s₁) (fun _ _ => False) s₁) (fun _ _ => False) s)
    (n : Nat) (h : I n s) :
    codeAny (model prog w) A (.compLoop (.ListComp elt [⟨target, iter, ifs, 0⟩] scope pos) 0 it acc env) R s := by
  refine codeAny_loop rfl I (fun n s hI => ?_) n h
  show wpAny _ A ((compTurn (.ListComp elt [⟨target, iter, ifs, 0⟩] scope pos) 0 it acc env).onRaise (fun x => do noteFrame x env; theTreesLotGoes x)) _ _ s
  refine wpAny_noted ?_
  rw [compTurn_list]
  refine wpAny_bind (wpAny_standAt (wpAny_bind (wpAny_mono (turn n s hI) (fun r s₁ h₁ => ?_) fun _ _ h' => h'.elim)))
  cases r with
  | none => exact wpAny_pure h₁
  | some v =>
    refine wpAny_bind (wpAny_mono h₁ (fun _ s₁' h₁' => ?_) fun _ _ h' => h'.elim)
    refine wpAny_bind (wpAny_mono h₁' (fun _ s₂ h₂ => wpAny_bind (wpAny_mono h₂ (fun ok s₃ h₃ => ?_) fun _ _ h' => h'.elim)) fun _ _ h' => h'.elim)
    cases ok with
    | false => exact wpAny_pure ⟨rfl, h₃⟩
    | true =>
      exact wpAny_bind (wpAny_bind (wpAny_mono h₃ (fun x s₄ h₄ => wpAny_bind (wpAny_mono h₄ (fun _ s₅ h₅ => wpAny_pure (wpAny_pure ⟨rfl, h₅⟩)) fun _ _ h' => h'.elim)) fun _ _ h' => h'.elim))
section
variable {X : Cx} {scope : Scope} {x : Str} {fv : List Str} {ix : List Nat}
theorem LcScope.cells (S : LcScope scope x fv X.env.scope) (ok : X.Ok) : ∀ y ∈ scope.names, y.2 = .free → ∃ c, X.env.cells.lookup y.1 = some c := fun y hy hf => by
  rcases S.free y hy hf with e | e
  · exact ok.has y.1 (.inl e)
  · exact ok.has y.1 (.inr e)
theorem comp_ok {pins : List (Addr × Obj)} {σ : St} {H : Hp} {s : Shared} {C : Addr} {fp : List Addr} (S : LcScope scope x fv X.env.scope) (I : Inv X pins σ H s) (hC : s.heap.objs.size ≤ C) (f2 : ∀ b ∈ fp, FpOk X pins H b) (fl : ∀ b ∈ fp, b < s.heap.objs.size) :
    (X.comp scope (x :: fv) C s H fp).Ok := by
  have hcl := S.cells I.ok
  refine ⟨I.ok.mod, S.kind, I.ok.glob, I.ok.blt, hC, fun y z c h1 h2 => I.ok.inj y z c (clos_get hcl h1) (clos_get hcl h2), fun y hy => ?_, fun y c hfn _ => absurd (show false = true from hfn) (by decide), I.ok.hd, I.ok.frames, .inl rfl,
    fun b hb => ⟨Nat.ne_of_lt (Nat.lt_of_lt_of_le (fl b hb) hC), fun y c h1 => (f2 b hb).2.2.2.2.1 y c (clos_get hcl h1)⟩, I.bs, Nat.le_trans I.ok.bsz I.sz, fun b o e hb => ?_, fun b hb hs => ?_, I.stack, I.stkFree⟩
  · exact clos_look (relabel_back S.nocell hy)
  · rcases (f2 b hb).2.2.2.1 with z | z
    · exact I.ok.noex b o e z
    · exact absurd (Nat.lt_of_lt_of_le (Heap.lt_size (I.ok.bs b o e).1) z) (Nat.lt_irrefl _)
  · rcases List.mem_cons.mp (I.stkSub b hs) with z | z
    · exact (f2 b hb).2.1 z
    · exact (f2 b hb).2.2.1 z
end
end L2
namespace L2
open PySem PySem.Spec PyProof.Rows
section
variable {X : Cx} {scope : Scope} {x : Str} {fv : List Str} {ix : List Nat}
def lobj (its : List Value) (n : Nat) : Obj := { cls := .type "list", data := .seq its.toArray n }
theorem comp_start {pins : List (Addr × Obj)} {σ : St} {H : Hp} {s : Shared} {C D : Addr} {fp : List Addr} {h₁ : Heap} {m : Str → Option Value} {tk n : Nat} (S : LcScope scope x fv X.env.scope) (hix : ix.map (fun i => X.N[i]?) = fv.map some) (I : Inv X pins σ H s)
    (hD : s.heap.objs.size ≤ D) (hDC : D ≠ C) (hC : s.heap.objs.size ≤ C) (f2 : ∀ b ∈ fp, FpOk X pins H b) (fl : ∀ b ∈ fp, b < s.heap.objs.size)
    (hns : h₁.Ns C m) (old : ∀ b o, s.heap.get? b = some o → h₁.get? b = some o) (hacc : h₁.get? D = some (lobj [] n)) :
    Inv (X.comp scope (x :: fv) C s H fp) [(D, lobj [] n)] (none :: pick ix σ) H { s with heap := h₁, toks := tk } := by
  have hcl := S.cells I.ok
  refine ⟨comp_ok S I hC f2 fl, rfl, I.bare, Un.kept old, ⟨m, hns, fun i y v h1 h2 h3 => ?_⟩, fun y c h1 => ?_, I.hok.fresh hC, fun y c h1 => I.freeC y c (clos_get hcl h1), fun p hp => ?_, I.hok.kept old, ?_⟩
  · cases i with
    | zero => simp at h2
    | succ i =>
      have h1' : fv[i]? = some y := by simpa [Cx.comp] using h1
      have h2' : (pick ix σ)[i]? = some (some v) := by simpa using h2
      unfold pick at h2'
      rw [List.getElem?_map] at h2'
      cases e : ix[i]? with
      | none => rw [e] at h2'; cases h2'
      | some j =>
        rw [e] at h2'
        have e2 : (σ[j]?).join = some v := by simpa using h2'
        have e3 : σ[j]? = some (some v) := by
          cases q : σ[j]? with
          | none => rw [q] at e2; cases e2
          | some o => rw [q] at e2; rw [show o = some v from e2]
        have e4 : X.N[j]? = some y := by
          have := congrArg (fun l => l[i]?) hix
          simp only [List.getElem?_map, e, h1', Option.map_some] at this
          exact Option.some.inj this
        have hyf := S.fvs y (List.mem_of_getElem? h1')
        have hout := S.free (y, .free) (PySem.mem_of_lookup hyf) rfl
        obtain ⟨m0, hn0, hl0⟩ := I.loc
        obtain ⟨u, r, lk⟩ := hl0 j y v e4 e3 (hout.elim (fun z => .inr (.inl z)) fun z => .inr (.inr z))
        refine ⟨u, r, .inr ⟨?_, ?_⟩⟩
        · exact relabel_free (scope := scope) (env := X.env) hyf
        · rcases lk with ⟨k, _⟩ | ⟨_, c, hc, hcell⟩
          · rcases hout with z | z
            · have k' : X.env.scope.names.lookup y = some .local := k
              rw [show X.env.scope.names.lookup y = some .cell from z] at k'; cases k'
            · have k' : X.env.scope.names.lookup y = some .local := k
              rw [show X.env.scope.names.lookup y = some .free from z] at k'; cases k'
          · obtain ⟨c', hc'⟩ := clos_look (env := X.env) hyf
            have e5 := clos_get hcl hc'
            rw [hc] at e5
            cases e5
            obtain ⟨o, ho, hd⟩ := hcell
            exact ⟨c, hc', o, old c o ho, hd⟩
  · obtain ⟨v, o, ho, hd⟩ := I.cell y c (clos_get hcl h1)
    exact ⟨v, o, old c o ho, hd⟩
  · have hp' : p = (D, lobj [] n) := by simpa [Cx.comp] using hp
    subst hp'
    refine ⟨hacc, I.hok.fresh hD, hDC, fun hs => ?_, fun v z => ?_⟩
    · rcases List.mem_cons.mp (I.stkSub _ hs) with z | z
      · exact absurd (show D = X.env.locals from z) (Nat.ne_of_gt (Nat.lt_of_lt_of_le I.lt hD))
      · exact I.nofs hD z
    · have z' : Data.seq _ _ = Data.cell v := z
      cases z'
  · show (none :: pick ix σ).length = (x :: fv).length
    have := congrArg List.length hix
    simp only [List.length_map] at this
    simp [pick, this]
theorem comp_end {pins : List (Addr × Obj)} {σ σ' : St} {H H' : Hp} {s s1 : Shared} {C D : Addr} {fp : List Addr} {h' : Heap} {its : List Value} {ys : List V} {n : Nat} (I : Inv X pins σ H s)
    (hD : s.heap.objs.size ≤ D) (hC : s.heap.objs.size ≤ C) (f2 : ∀ b ∈ fp, FpOk X pins H b)
    (I1 : Inv (X.comp scope (x :: fv) C s H fp) [(D, lobj its n)] σ' H' s1) (hs : Heap.SameBut C s1.heap h') (rv : Vals ys its) (hz : ys.length ≤ sizeLine) :
    Inv X pins σ (upd H' D (.lst ys)) { s1 with heap := h' } ∧ H' D = none := by
  obtain ⟨eD, nD, neD, nfD, _⟩ := I1.pin (D, lobj its n) (by simp [Cx.comp])
  have neDC : D ≠ C := neD
  have hfree : H' C = none := I1.free
  have eD' : h'.get? D = some (lobj its n) := (hs.2 D neDC).trans eD
  have lt : ∀ b o, s.heap.get? b = some o → b ≠ C ∧ b ≠ D := fun b o e => ⟨Nat.ne_of_lt (Nat.lt_of_lt_of_le (Heap.lt_size e) hC), Nat.ne_of_lt (Nat.lt_of_lt_of_le (Heap.lt_size e) hD)⟩
  have U : Un (frs X.stack) fp H H' s.heap s1.heap := I1.base
  have nDof : ∀ b u, H' b = some u → b ≠ D := fun b u e => ne_of_none e nD
  have U' : Un (frs X.stack) fp H (upd H' D (.lst ys)) s.heap h' := by
    refine ⟨fun b o e n hb he => ?_, fun b o e n hb he => ?_, fun b o e n he => ?_, fun b o e he => ?_, fun b xs e => ?_, fun b o u e => ?_, fun b ps e => ?_⟩
    · exact (hs.2 b (lt b o e).1).trans (U.keep b o e n hb he)
    · obtain ⟨sl, q⟩ := U.slot b o e n hb he
      exact ⟨sl, (hs.2 b (lt b o e).1).trans q⟩
    · rw [upd_ne (lt b o e).2]
      exact U.free b o e n he
    · obtain ⟨o', q⟩ := U.there b o e he
      exact ⟨o', (hs.2 b (lt b o e).1).trans q⟩
    · have := U.tups b xs e
      rw [upd_ne (nDof b _ this)]; exact this
    · have := U.frzs b o u e
      rw [upd_ne (nDof b _ this)]; exact this
    · obtain ⟨more, this⟩ := U.tbls b ps e
      exact ⟨more, by rw [upd_ne (nDof b _ this)]; exact this⟩
  have hok : HOk X.prog X.w (upd H' D (.lst ys)) h' := fun b u e => by
    by_cases hb : b = D
    · subst hb
      rw [upd_same] at e
      cases e
      exact ⟨hz, its, n, rv, eD'⟩
    · rw [upd_ne hb] at e
      refine (I1.hok b u e).stay (fun c v hc q => (hs.2 c ?_).trans q) (fun c q => by rw [upd_ne (nDof c _ q)]; exact q) fun c xs q => by rw [upd_ne (nDof c _ q)]; exact q
      rintro rfl
      rcases hc with hc | hc
      · rw [← hc, hfree] at e; cases e
      · rw [hfree] at hc; cases hc
  exact ⟨I.call' (s' := { s1 with heap := h' }) (ch := fp) I1.os U' hok I1.bare fun b hb => ⟨(f2 b hb).2.2.2.1, (f2 b hb).2.1, (f2 b hb).2.2.2.2.1, (f2 b hb).2.2.2.2.2⟩, nD⟩
theorem pe_lc {elt iter : Expr} {ifs : List Expr} {px pos : Pos} {wi : TI} {tt : TT} {te : TE} {osc : Scope} (hc : X.calm = true) (S₀ : LcScope scope x fv osc) (hix : ix.map (fun i => X.N[i]?) = fv.map some) (hi : PI X (.Name x px) iter wi)
    (ht : ∀ (C : Addr) (s₀ : Shared) (H₀ : Hp) (ex : List Addr), PIfs (X.comp scope (x :: fv) C s₀ H₀ ex) ifs tt)
    (he : ∀ (C : Addr) (s₀ : Shared) (H₀ : Hp) (ex : List Addr), PE (X.comp scope (x :: fv) C s₀ H₀ ex) elt te)
    (hosc : X.env.scope = osc := by rfl) (hs : ∀ x, foldedSetIterable iter X.env x = pure x := by intro _; rfl) : PE X (.ListComp elt [⟨.Name x px, iter, ifs, 0⟩] scope pos) (tLC ix wi tt te) := by
  have S : LcScope scope x fv X.env.scope := hosc ▸ S₀
  intro pins s σ H Q I h
  rw [eval_ListComp]
  refine wpAny_comprehension_free (use := none) (cl := closOf scope X.env) rfl hs (closureFor_of (S.cells I.ok)) S.kind S.names ?_
  refine thn (hi pins s σ H _ I h) fun v s1 h1 => thn h1 fun itv s2 h2 => ?_
  obtain ⟨it, fp, tn, J, H2, e, I2, T, st2, f2, W, ⟨m0, w0⟩, turn⟩ := h2
  subst e
  have fl : ∀ b ∈ fp, b < s2.heap.objs.size := fun b hb => by obtain ⟨o, e, _⟩ := T.obj _ _ st2 b hb; exact Heap.lt_size e
  refine wpAny_newObj_type (wpAny_newFunctionEnv S.nocell (by intro y hy; simp at hy) (fun h₁ hns₁ hsb₁ => ?_) S.kind)
  dsimp only at hns₁ hsb₁ ⊢
  generalize hH2 : s2.heap.push { cls := .type "list", dict := none, data := .seq ([] : List Value).toArray } = hp2 at hns₁ hsb₁ ⊢
  have hCe : hp2.objs.size = s2.heap.objs.size + 1 := by rw [← hH2, Heap.size_push]
  generalize hCC : hp2.objs.size = C at hns₁ hsb₁ ⊢
  generalize hDD : s2.heap.objs.size = D at *
  have hDC : D ≠ C := by omega
  have hD : s2.heap.objs.size ≤ D := by omega
  have hC : s2.heap.objs.size ≤ C := by omega
  have nbC : ∀ b : Nat, b < s2.heap.objs.size → b ≠ C := fun b hb => by omega
  have nbD : ∀ b : Nat, b < s2.heap.objs.size → b ≠ D := fun b hb => by omega
  have old : ∀ b o, s2.heap.get? b = some o → h₁.get? b = some o := fun b o e => hsb₁.extBut b o (nbC b (Heap.lt_size e)) (Heap.get?_push_of_some _ (hH2 ▸ Heap.get?_push_of_some _ e))
  have hacc : h₁.get? D = some (lobj [] 0) := hsb₁.extBut _ _ hDC (Heap.get?_push_of_some _ (hH2 ▸ hDD ▸ Heap.get?_push_size _ rfl))
  have st3 : tn 0 h₁ := T.keep _ _ _ st2 fun b _ o e => old b o e
  have I3 : Inv (X.comp scope (x :: fv) C s2 H2 fp) [(D, lobj [] 0)] (none :: pick ix σ) H2 { s2 with heap := h₁, toks := s2.toks + ([] : List (Str × Value)).length } := comp_start S hix I2 hD hDC hC f2 (fun b hb => hDD.symm ▸ fl b hb) hns₁ old hacc
  have fpD : ∀ b ∈ fp, b ≠ D := fun b hb => nbD b (hDD.symm ▸ fl b hb)
  have hcl := S.cells I2.ok
  have stat : ∀ {H' : Hp} {its : List Value} {n : Nat}, (∀ b ∈ fp, H' b = none) → ∀ b ∈ fp, FpOk (X.comp scope (x :: fv) C s2 H2 fp) [(D, lobj its n)] H' b := fun {H' its n} hn b hb => by
    obtain ⟨_, g1, g2, g3, g4, g5⟩ := f2 b hb
    refine ⟨hn b hb, (nbC b (hDD.symm ▸ fl b hb)), fun z => ?_, .inl hb, fun y c h1 => g4 y c (clos_get hcl h1), fun p hp => ?_⟩
    · rcases List.mem_cons.mp (I2.stkSub b z) with z | z
      · exact g1 z
      · exact g2 z
    · have hp' : p = (D, lobj its n) := by simpa [Cx.comp] using hp
      rw [hp']
      exact (fpD b hb).symm
  have loop : ∀ s3 : Shared, s3 = { s2 with heap := h₁, toks := s2.toks + ([] : List (Str × Value)).length } →
      codeAny (model X.prog X.w) X.A (.compLoop (.ListComp elt [⟨.Name x px, iter, ifs, 0⟩] scope pos) 0 (.ref it) (.ref D) (compEnvC scope (closOf scope X.env) C X.env))
        (compPost (model X.prog X.w) X.A X.xe none (EP X pins σ Q) (.ref D) C) s3 := by
    rintro s3 rfl
    refine codeAny_compLoop_own (fun n s' => ∃ i ys its k H' o', Inv (X.comp scope (x :: fv) C s2 H2 fp) [(D, lobj its k)] (o' :: pick ix σ) H' s' ∧ tn i s'.heap ∧ (∀ b ∈ fp, H' b = none) ∧ Vals ys its ∧ ys.length ≤ sizeLine ∧ W i n ys H') ?_ m0
      ⟨0, [], [], 0, H2, none, I3, st3, fun b hb => (f2 b hb).1, .nil, Nat.zero_le _, w0⟩
    rintro n s4 ⟨i, ys, its, k, H4, o4, I4, st4, fr4, rv4, hz4, w4⟩
    rcases turn i n ys H4 w4 with ⟨stop, q⟩ | ⟨go, hlt, step⟩
    · refine thn (T.done (X.comp scope (x :: fv) C s2 H2 fp) rfl rfl rfl hc i _ s4 _ H4 _ I4 (stat fr4) st4 stop) fun r s5 ⟨hr, I5⟩ => ?_
      subst hr
      obtain ⟨m5, hn5, _⟩ := id I5.loc
      refine ⟨m5, hn5, fun h6 hs6 => ?_⟩
      obtain ⟨I6, nD⟩ := comp_end I2 hD hC f2 I5 hs6 rv4 hz4
      exact ⟨.ref D, _, I6, rfl, q D nD⟩
    · refine thn (T.item (X.comp scope (x :: fv) C s2 H2 fp) rfl rfl rfl hc i _ s4 _ H4 _ I4 (stat fr4) st4 go) fun r s5 ⟨u, hr, h5⟩ => ?_
      subst hr
      refine thn h5 fun _ s6 ⟨xv, H6, I6, r6, y6, st6, fr6⟩ => ?_
      have I6' := I6.pinned (stat fr6) (T.obj _ _ st6)
      refine wpAny_assign_Name (store_ok (i := 0) I6' S.nd rfl (.inl (lookup_relabel_local S.tgt)) r6 (fun s7 I7 => ?_) (.inr (lookup_relabel_local S.tgt)))
      refine thn (ht C s2 H2 fp _ s7 _ H6 _ I7 (step xv H6 y6)) fun b s8 ⟨H8, I8, q8⟩ => ?_
      have keepT : ∀ {H9 : Hp} {σ9 : St} {s9 : Shared} (I9 : Inv (X.comp scope (x :: fv) C s2 H2 fp) ([(D, lobj its k)] ++ pinsAt fp s6.heap) σ9 H9 s9), (∀ b ∈ fp, ∀ o, s6.heap.get? b = some o → s9.heap.get? b = some o ∧ H9 b = none) := fun {H9 σ9 s9} I9 b hb o e =>
        ⟨(I9.pin (b, o) (List.mem_append_right _ (List.mem_append_right _ (mem_pinsAt hb e)))).1, (I9.pin (b, o) (List.mem_append_right _ (List.mem_append_right _ (mem_pinsAt hb e)))).2.1⟩
      cases b with
      | false =>
        rw [if_neg Bool.false_ne_true] at q8 ⊢
        obtain ⟨m', hm, w8⟩ := q8
        refine ⟨m', hm, i + 1, ys, its, k, H8, some xv, I8.unpinned, T.keep _ _ _ st6 fun b hb o e => (keepT I8 b hb o e).1, fun b hb => ?_, rv4, hz4, w8⟩
        obtain ⟨o, e, _⟩ := T.obj _ _ st6 b hb
        exact (keepT I8 b hb o e).2
      | true =>
        rw [if_pos rfl] at q8 ⊢
        refine thn (he C s2 H2 fp _ s8 _ H8 _ I8 q8) fun y s9 ⟨yv, H9, I9, r9, q9⟩ => ?_
        obtain ⟨m', hm, w9⟩ := q9
        obtain ⟨eD, nD, neD, nfD, _⟩ := I9.pin (D, lobj its k) (by simp [Cx.comp])
        have hlen := rv4.length
        refine wpAny_list_append_plain (items := its.toArray) ⟨k, eD⟩ (fun h10 hp10 hs10 => ?_) (by rw [List.size_toArray]; omega)
        obtain ⟨k', e10⟩ := hp10
        have J9 : Inv (X.comp scope (x :: fv) C s2 H2 fp) (pinsAt fp s6.heap) (some xv :: pick ix σ) H9 s9 := I9.pins_of fun p hp => I9.pin p (List.mem_append_right _ (List.mem_append_right _ hp))
        have J10 : Inv (X.comp scope (x :: fv) C s2 H2 fp) (pinsAt fp s6.heap) (some xv :: pick ix σ) H9 { s9 with heap := h10 } :=
          J9.turned (t' := s9.toks) (it := D) (fun b o hb e => (hs10.2 b hb).trans e) nD neD (.inr hD) (fun y c h1 z => by
            obtain ⟨_, o, ho, _⟩ := I2.cell y c (clos_get hcl h1)
            exact nbD c (Heap.lt_size ho) z) (fun p hp z => by
            obtain ⟨hb, _⟩ := of_pinsAt (show p ∈ pinsAt fp s6.heap by simpa [Cx.comp] using hp)
            exact fpD p.1 hb z)
        have e10' : h10.get? D = some (lobj (its ++ [y]) k') := by
          rw [e10]
          simp [lobj]
        refine ⟨m', hm, i + 1, ys ++ [yv], its ++ [y], k', H9, some xv, J10.pins_of fun p hp => ?_, T.keep _ _ _ st6 fun b hb o e => (hs10.2 b (fpD b hb)).trans (keepT I9 b hb o e).1, fun b hb => ?_, rv4.append (.cons r9 .nil), ?_, w9⟩
        · have hp' : p = (D, lobj (its ++ [y]) k') := by simpa using hp
          subst hp'
          exact ⟨e10', nD, neD, nfD, fun v z => by have z' : Data.seq _ _ = Data.cell v := z; cases z'⟩
        · obtain ⟨o, e, _⟩ := T.obj _ _ st6 b hb
          exact (keepT I9 b hb o e).2
        · rw [List.length_append, List.length_singleton]; omega
  exact codeAny_compStart_list (loop _ rfl) (T.self _ 0 _ _ _ st3 (loop _ rfl))
end
section
variable {Q : VK} {ix : List Nat} {tt : TT} {te : TE} {σ : St} {H : Hp}
end
end L2
namespace L2
open PySem PySem.Spec PyProof.Rows
section
variable {X : Cx} {a b : Expr} {ta tb : TE} {pos : Pos}
theorem op_mul_str : OpR X (binaryOp .Mult) (fun x y H Q => ∃ z n, x = .str z ∧ y = .int n ∧ MulOk z n ∧ Q (.str (Txt.mul z n)) H) := by
  intro pins s σ H x y v u Q I rx ry h
  obtain ⟨z, n, rfl, rfl, hm, q⟩ := h
  obtain ⟨t, rfl⟩ := rx
  obtain ⟨t', rfl⟩ := ry
  exact SB.mul hm fun t' k => ⟨.str (Txt.mul z n), H, I.tok _, ⟨_, rfl⟩, q⟩
def rSlS : V → Option Int → Option Int → Hp → VK → Prop := fun x lo hi H Q => ∃ z, x = .str z ∧ z.length ≤ sizeLine ∧ Q (.str (Txt.slice z lo hi)) H
theorem part_opt {v : Value} {o : Option Int} (p : IsPart v o) : ∃ l : Option (Int × Tok), v = partValue l ∧ l.map (·.1) = o := by
  cases p with
  | none => exact ⟨none, rfl, rfl⟩
  | int i t => exact ⟨some (i, t), rfl, rfl⟩
theorem sl_str : SlR X rSlS := by
  intro pins s σ H x v vl vu lo hi sl Q I rx hs pl pu h
  obtain ⟨z, rfl, hz, q⟩ := h
  obtain ⟨t, rfl⟩ := rx
  obtain ⟨l, rfl, el⟩ := part_opt pl
  obtain ⟨u, rfl, eu⟩ := part_opt pu
  subst el eu
  refine ⟨"str", _, F.slot_str_getitem.lookup, typeIs_str _ _ _, wpAny_getItem_str_slice (l := l) (u := u) (st := none) hs rfl ?_⟩
  exact post_val_or_str ⟨Nat.le_trans (Txt.slice_le z _ _) hz, fun t' k => ⟨.str (Txt.slice z (l.map (·.1)) (u.map (·.1))), H, I.tok _, ⟨_, rfl⟩, q⟩⟩
theorem bools_of : ∀ {bs : List Bool} {us : List Value}, Vals (bs.map V.bl) us → LSm.BoolsAre us bs
  | [], _, r => by rw [List.map_nil] at r; cases r; exact .nil
  | b :: bs, _, r => by
    rw [List.map_cons] at r
    cases r with
    | cons r1 r2 =>
      cases (show _ = Value.bool b from r1)
      exact .cons b (bools_of r2)
theorem call_all (hc : X.calm = true) : CallR X (.builtin "all") (fun xs H Q => ∃ (p : Addr) (bs : List Bool), xs = [.ref p] ∧ SqL X.K H p (bs.map V.bl) ∧ Q (.bl (bs.all id)) H) := by
  intro pins s σ H xs us Q I r h
  obtain ⟨p, bs, rfl, hp, q⟩ := h
  obtain ⟨u, rfl, ru⟩ := vals1 r
  cases ru
  obtain ⟨its, rv, pl, hz⟩ := I.list hp
  have hb := bools_of rv
  have hl := pl.isList
  have hlt : p < s.heap.objs.size := by obtain ⟨_, e, _⟩ := hl; exact Heap.lt_size e
  have hh : X.A.handled = none := I.ok.hd hc
  refine call_all_walk (wpAny_pyIter_list hl ?_)
  refine ⟨s.heap.objs.size, [s.heap.objs.size, p], [s.heap.objs.size], its.toArray.size, _, _, fun i => (bs[i]?).getD true, rfl, Walks.list (A := X.A.in1) hh _ p (Nat.ne_of_lt hlt) its.toArray,
    ⟨⟨_, Heap.get?_push_size _ rfl, rfl, rfl⟩, hl.push _⟩, fun i v s' Q' E' hP hQ => ?_, fun h' tk hk => ?_⟩
  · obtain ⟨b, e, rfl⟩ := hb.get i v (by simpa using hP)
    simp only [e, Option.getD_some] at hQ
    exact wpAny_truthy_bool hQ
  · have e : ((List.range its.toArray.size).all fun i => (bs[i]?).getD true) = bs.all id := by
      rw [List.size_toArray, hb.length]; exact LSm.range_all bs
    rw [e]
    exact ⟨.bl (bs.all id), H, I.kept (LSm.kept_iter hk), rfl, q⟩
theorem call_isinst : CallR X (.builtin "isinstance") (fun xs H Q => ∃ x T t b, xs = [x, .ty T] ∧ TyOf X.K H x t ∧ PySem.W.kitOne X.K t (.type T) = some b ∧ Q (.bl b) H) := by
  intro pins s σ H xs us Q I r h
  obtain ⟨x, T, t, b, rfl, ty, hk, q⟩ := h
  obtain ⟨u, w', rfl, ru, rw'⟩ := vals2 r
  cases (show w' = Value.type T from rw')
  exact isinst_ok I ru ty hk fun tk => ⟨.bl b, H, I.tok tk, rfl, q⟩
end
end L2
namespace L2
open PySem PySem.Spec PyProof.Rows
structure Fn (K : PySem.W.Frag) (mg : Str → Option Value) (x : Str) (st : Stmt) (ps : List Str) (f : Addr) (fd : FuncData) : Prop where
  fu : Fun K x x st f fd
  mgx : mg x = some (.ref f)
  bd : Binds K fd ps []
def HasFn (K : PySem.W.Frag) (mg : Str → Option Value) (x : Str) (st : Stmt) (ps : List Str) : Prop := ∃ f fd, Fn K mg x st ps f fd
section
variable {X : Cx} {x : Str} {st : Stmt} {ps : List Str} {f : Addr} {fd : FuncData} {k : Nat} {sp : Sp} {e : Expr} {es : List Expr} {t : TA} {p pos : Pos}
theorem pe_fn (N : Fn X.K X.mg x st ps f fd) (G : FnOk X.prog X.w X.K X.mg X.base CX0 k f fd ps sp) (hr : Room k X.A) (ha : PA X (e :: es) t) (hg : Gl X x := by rfl)
    (hdb : (x == ("__debug__" : Str)) = false := by decide) (he : starEach (e :: es) X.env = (false, eval e X.env) :: starEach es X.env := by rfl) (hpl : (backTo pos (starEach es X.env)).any (·.1) = false := by rfl) :
    PE X (.Call (.Name x p) (e :: es) [] pos) (tCall sp [] E0 t) := pe_call G hr hg N.mgx N.fu.kp N.bd .nil pass0 ha hdb he hpl
theorem pe_gl {v : V} (h : ∃ u, X.mg x = some u ∧ RelV v u) (hg : Gl X x := by rfl) (hd : (x == ("__debug__" : Str)) = false := by decide) : PE X (.Name x pos) (tC v) := by
  obtain ⟨u, h1, h2⟩ := h
  exact pe_glob hg h1 h2 hd
theorem pe_ty {T : String} (hm : X.mg x = none) (hv : bootBuiltins x = some (.type T)) (hg : Gl X x := by rfl) (hn : x ≠ "__name__" := by decide) (hd : (x == ("__debug__" : Str)) = false := by decide) : PE X (.Name x pos) (tC (.ty T)) :=
  pe_bltn hg hm hv rfl hn hd
end
def okSign (c : Nat) : Bool := decide (32 ≤ c ∧ c ≤ 126)
def NotStr (K : PySem.W.Frag) (H : Hp) (v : V) : Prop := ∃ t, TyOf K H v t ∧ PySem.W.kitOne K t (.type "str") = some false
end L2
namespace L2
open PySem PySem.Spec PyProof.Rows PySem.SeqAt
section
variable {X : Cx}
inductive NoNum (H : Hp) : V → Prop where
  | non : NoNum H .non
  | str (x : Str) : NoNum H (.str x)
  | lst {a : Addr} {xs : List V} (e : H a = some (.lst xs)) : NoNum H (.ref a)
  | tup {a : Addr} {xs : List V} (e : H a = some (.tup xs)) : NoNum H (.ref a)
  | dK {a : Addr} {kvs : List (Key × V)} (e : H a = some (.dK kvs)) : NoNum H (.ref a)
end
end L2
namespace L2
open PySem PySem.Spec PyProof.Rows
def isStar : Expr → Bool
  | .Starred .. => true
  | _ => false
theorem star_cons {e : Expr} {es : List Expr} {env : Env} (h : isStar e = false) : starEach (e :: es) env = (false, eval e env) :: starEach es env := by
  cases e <;> first
    | rfl
    | (have h' : true = false := h; cases h')
def noStar : List Expr → Bool
  | [] => true
  | e :: es => !isStar e && noStar es
theorem star_any {pos : Pos} {env : Env} : ∀ {es : List Expr}, noStar es = true → (backTo pos (starEach es env)).any (·.1) = false
  | [], _ => rfl
  | e :: es, h => by
    have h' : (!isStar e && noStar es) = true := h
    rw [Bool.and_eq_true] at h'
    have h1 : isStar e = false := by simpa using h'.1
    rw [star_cons h1]
    show (false || (backTo pos (starEach es env)).any (·.1)) = false
    rw [star_any h'.2]
    rfl
section
variable {X : Cx} {x : Str} {st : Stmt} {ps : List Str} {f : Addr} {fd : FuncData} {k : Nat} {sp : Sp} {e : Expr} {es : List Expr} {t : TA} {te : TE} {p pos : Pos} {id T : String} {r : List V → Hp → VK → Prop}
theorem pa_c (ha : PE X e te) (hr : PA X es t) (h : isStar e = false := by rfl) : PA X (e :: es) (tCons te t) := pa_cons ha hr (star_cons h)
theorem pe_f (N : Fn X.K X.mg x st ps f fd) (G : FnOk X.prog X.w X.K X.mg X.base CX0 k f fd ps sp) (hr : Room k X.A) (ha : PA X (e :: es) t) (hg : Gl X x := by rfl) (hdb : (x == ("__debug__" : Str)) = false := by decide) (h1 : isStar e = false := by rfl) (h2 : noStar es = true := by rfl) :
    PE X (.Call (.Name x p) (e :: es) [] pos) (tCall sp [] E0 t) := pe_fn N G hr ha hg hdb (star_cons h1) (star_any h2)
theorem pe_b (hc : CallR X (.builtin id) r) (hm : X.mg x = none) (hv : bootBuiltins x = some (.builtin id)) (ha : PA X (e :: es) t) (hg : Gl X x := by rfl) (hn : x ≠ "__name__" := by decide) (hdb : (x == ("__debug__" : Str)) = false := by decide) (h1 : isStar e = false := by rfl) (h2 : noStar es = true := by rfl) :
    PE X (.Call (.Name x p) (e :: es) [] pos) (tCB r t) := pe_callB hc hg hm hv ha hn hdb (star_cons h1) (star_any h2)
theorem pe_t (hc : CallR X (.type T) r) (hm : X.mg x = none) (hv : bootBuiltins x = some (.type T)) (ha : PA X (e :: es) t) (hg : Gl X x := by rfl) (hn : x ≠ "__name__" := by decide) (hdb : (x == ("__debug__" : Str)) = false := by decide) (h1 : isStar e = false := by rfl) (h2 : noStar es = true := by rfl) :
    PE X (.Call (.Name x p) (e :: es) [] pos) (tCB r t) := pe_callTy hc hg hm hv ha hn hdb (star_cons h1) (star_any h2)
theorem pi_r1 {tg a : Expr} {ta : TA} (hm : X.mg "range" = none) (ha : PA X [a] ta) (hg : Gl X "range" := by rfl) (h1 : isStar a = false := by rfl) : PI X tg (.Call (.Name "range" p) [a] [] pos) (iRng1 ta) := pi_range1 hg hm ha (by rw [star_cons h1]; rfl)
end
end L2
namespace L2
open PySem PySem.Spec PyProof.Rows
theorem mulOk_small {z : Str} {n : Int} (hz : z.length ≤ 1000) (h0 : -1000 ≤ n) (h1 : n ≤ 1000) : MulOk z n := by
  refine ⟨?_, fun hn _ h => ?_, fun hn _ => ?_⟩
  · rw [decide_eq_false (by omega), decide_eq_false (by omega)]
    rfl
  · have : (1000 : Int) ≤ (2 ^ 63 - 1) / n := Int.le_ediv_of_mul_le (by omega) (by omega)
    omega
  · show decide (z.length * n.toNat > sizeLine) = false
    have h2 : z.length * n.toNat ≤ 1000 * 1000 := Nat.mul_le_mul hz (by omega)
    rw [sizeLine_eq]
    exact decide_eq_false (by omega)
theorem str_k : Str.ofString "k" = ⟨#[107]⟩ := by decide +kernel
theorem mul_k_list (n : Int) : (Txt.mul (Str.ofString "k") n).cps.toList = List.replicate n.toNat 107 := by
  rw [str_k]
  exact mul_one_list 107 n
theorem len_list (z : Str) : z.length = z.cps.toList.length := by simp [Str.length]
theorem app_list (x y : Str) : (x ++ y).cps.toList = x.cps.toList ++ y.cps.toList := by
  show (x.cps ++ y.cps).toList = _
  simp
theorem atI_get' {α : Type} [Inhabited α] {xs : List α} {i : Int} (h0 : 0 ≤ i) (h1 : i < xs.length) : ∃ c, atI xs i = some c ∧ c ∈ xs := by
  obtain ⟨j, rfl⟩ : ∃ j : Nat, i = j := ⟨i.toNat, by omega⟩
  have hj : j < xs.length := by omega
  exact ⟨xs[j], atI_nat (List.getElem?_eq_getElem hj), List.getElem_mem hj⟩
end L2
namespace L2
open PySem PySem.Spec PyProof.Rows
end L2
namespace L2
open PySem PySem.Spec PyProof.Rows
section
variable {K : PySem.W.Frag}
theorem TyOf.same {H H' : Hp} {v : V} {t : Value} (ty : TyOf K H v t) (s : Same H H') : TyOf K H' v t := by
  cases ty with
  | non => exact .non
  | bl x => exact .bl x
  | int i => exact .int i
  | str x => exact .str x
  | flt x => exact .flt x
  | lst e => exact .lst (s _ _ e)
  | frz e => exact .frz (s _ _ e)
  | tup e => exact .tup (s _ _ e)
  | dK e => exact .dK (s _ _ e)
  | dT e => exact .dT (s _ _ e)
  | ins e cl ha hn htk hm => exact .ins (s _ _ e) cl ha hn htk hm
theorem NotStr.same {H H' : Hp} {v : V} (h : NotStr K H v) (s : Same H H') : NotStr K H' v := by
  obtain ⟨t, ty, k⟩ := h
  exact ⟨t, ty.same s, k⟩
theorem NoNum.same {H H' : Hp} {v : V} (h : NoNum H v) (s : Same H H') : NoNum H' v := by
  cases h with
  | non => exact .non
  | str x => exact .str x
  | lst e => exact .lst (s _ _ e)
  | tup e => exact .tup (s _ _ e)
  | dK e => exact .dK (s _ _ e)
end
end L2
namespace L2
open PySem PySem.Spec PyProof.Rows
section
variable {X : Cx}
def rAddP (K : PySem.W.Frag) : R2 := fun x y H Q => rI0 (fun i j => .int (i + j)) x y H Q ∨ (∃ i j, x = .str i ∧ y = .str j ∧ i.length + j.length ≤ sizeLine ∧ Q (.str (i ++ j)) H) ∨ rCat x y H Q ∨ rCatT K x y H Q
theorem o_add : OpR X (binaryOp .Add) (rAddP X.K) := op_add.or (op_add_str.or (op_cat.or op_catT))
def rMulP : R2 := fun x y H Q => rI CMul (fun i j => .int (i * j)) x y H Q ∨ (∃ z n, x = .str z ∧ y = .int n ∧ MulOk z n ∧ Q (.str (Txt.mul z n)) H) ∨ rRep x y H Q
theorem o_mul : OpR X (binaryOp .Mult) rMulP := op_mul.or (op_mul_str.or op_rep)
def rLtP : R2 := fun x y H Q => rI0 (fun i j => .bl (decide (i < j))) x y H Q ∨ (∃ i j, x = .str i ∧ y = .str j ∧ Q (.bl (decide (i.cps.toList < j.cps.toList))) H)
theorem o_lt : OpR X (compareOp .Lt) rLtP := op_lt.or op_lt_str
def rSlP (K : PySem.W.Frag) : V → Option Int → Option Int → Hp → VK → Prop := fun x lo hi H Q => rSlS x lo hi H Q ∨ rSlL K x lo hi H Q ∨ rSlT K x lo hi H Q
theorem s_any : SlR X (rSlP X.K) := sl_str.or (sl_list.or sl_tup)
end
section
variable {X : Cx} {K : PySem.W.Frag} {σ : St} {H : Hp} {D : Ends} {Q : VK} {E : XK}
theorem rd_mod {i j : Int} (hc : 0 < j) (h : Q (.int (i % j)) H) : rI (fun _ j => 0 < j) (fun i j => .int (i % j)) (.int i) (.int j) H Q := ⟨i, j, rfl, rfl, hc, h⟩
theorem rd_fdiv {i j : Int} (hc : 0 < j ∧ j < 1073741824) (h : Q (.int (i / j)) H) : rI CDiv (fun i j => .int (i / j)) (.int i) (.int j) H Q := ⟨i, j, rfl, rfl, hc, h⟩
theorem rd_pow {i j : Int} (hc : 0 ≤ j ∧ j ≤ 1000000 ∧ i.natAbs < 2 ^ 64) (h : Q (.int (i ^ j.toNat)) H) : rI CPow (fun i j => .int (i ^ j.toNat)) (.int i) (.int j) H Q := ⟨i, j, rfl, rfl, hc, h⟩
theorem rd_shr {i j : Int} (hc : 0 ≤ j) (h : Q (.int (i / 2 ^ j.toNat)) H) : rI (fun _ j => 0 ≤ j) (fun i j => .int (i / 2 ^ j.toNat)) (.int i) (.int j) H Q := ⟨i, j, rfl, rfl, hc, h⟩
theorem rd_addI {i j : Int} (h : Q (.int (i + j)) H) : rAddP K (.int i) (.int j) H Q := .inl ⟨i, j, rfl, rfl, h⟩
theorem rd_addS {i j : Str} (hz : i.length + j.length ≤ sizeLine) (h : Q (.str (i ++ j)) H) : rAddP K (.str i) (.str j) H Q := .inr (.inl ⟨i, j, rfl, rfl, hz, h⟩)
theorem same_new {p : Addr} {o : HO} (h : H p = none) : Same H (upd H p o) := fun b u e => by rw [upd_ne (ne_of_none e h)]; exact e
theorem rd_mulI {i j : Int} (hc : CMul i j) (h : Q (.int (i * j)) H) : rMulP (.int i) (.int j) H Q := .inl ⟨i, j, rfl, rfl, hc, h⟩
theorem rd_mulS {z : Str} {n : Int} (hc : MulOk z n) (h : Q (.str (Txt.mul z n)) H) : rMulP (.str z) (.int n) H Q := .inr (.inl ⟨z, n, rfl, rfl, hc, h⟩)
theorem rd_ltI {i j : Int} (h : Q (.bl (decide (i < j))) H) : rLtP (.int i) (.int j) H Q := .inl ⟨i, j, rfl, rfl, h⟩
theorem rd_ltS {i j : Str} (h : Q (.bl (decide (i.cps.toList < j.cps.toList))) H) : rLtP (.str i) (.str j) H Q := .inr ⟨i, j, rfl, rfl, h⟩
end
end L2
namespace L2
open PySem PySem.Spec PyProof.Rows PySem.SeqAt
inductive D where
  | non | bl (b : Bool) | int (i : Int) | str (x : Str) | lst (xs : List D) | tup (xs : List D) | dct
mutual
def Rep (H : Hp) : D → V → Prop
  | .non, v => v = .non
  | .bl b, v => v = .bl b
  | .int i, v => v = .int i
  | .str x, v => v = .str x
  | .lst ds, v => ∃ a vs, v = .ref a ∧ H a = some (.lst vs) ∧ Reps H ds vs
  | .tup ds, v => ∃ a vs, v = .ref a ∧ H a = some (.tup vs) ∧ Reps H ds vs
  | .dct, v => ∃ a kvs, v = .ref a ∧ H a = some (.dK kvs)
def Reps (H : Hp) : List D → List V → Prop
  | [], vs => vs = []
  | d :: ds, vs => ∃ v r, vs = v :: r ∧ Rep H d v ∧ Reps H ds r
end
mutual
def pyEq : D → D → Bool
  | .non, .non => true
  | .bl a, .bl b => a == b
  | .bl a, .int i => (if a then 1 else 0) == i
  | .int i, .bl a => i == (if a then 1 else 0)
  | .int i, .int j => i == j
  | .str x, .str y => x == y
  | .lst xs, .lst ys => pyEqs xs ys
  | .tup xs, .tup ys => pyEqs xs ys
  | .dct, .dct => true
  | _, _ => false
def pyEqs : List D → List D → Bool
  | [], [] => true
  | x :: xs, y :: ys => pyEq x y && pyEqs xs ys
  | _, _ => false
end
mutual
def D.dep : D → Nat
  | .lst ds => D.deps ds + 1
  | .tup ds => D.deps ds + 1
  | .dct => 1000
  | _ => 0
def D.deps : List D → Nat
  | [] => 0
  | d :: ds => max (D.dep d) (D.deps ds)
end
theorem Reps.length {H : Hp} : ∀ {ds : List D} {vs : List V}, Reps H ds vs → ds.length = vs.length
  | [], vs, h => by simp only [Reps] at h; subst h; rfl
  | d :: ds, vs, h => by
    simp only [Reps] at h
    obtain ⟨v, r, rfl, _, h⟩ := h
    rw [List.length_cons, List.length_cons, Reps.length h]
mutual
theorem Rep.same {H H' : Hp} (s : Same H H') : ∀ {d : D} {v : V}, Rep H d v → Rep H' d v
  | .non, v, h => by simp only [Rep] at h ⊢; exact h
  | .bl b, v, h => by simp only [Rep] at h ⊢; exact h
  | .int b, v, h => by simp only [Rep] at h ⊢; exact h
  | .str b, v, h => by simp only [Rep] at h ⊢; exact h
  | .lst ds, v, h => by simp only [Rep] at h ⊢; obtain ⟨a, vs, e, h1, h2⟩ := h; exact ⟨a, vs, e, s _ _ h1, Reps.same s h2⟩
  | .tup ds, v, h => by simp only [Rep] at h ⊢; obtain ⟨a, vs, e, h1, h2⟩ := h; exact ⟨a, vs, e, s _ _ h1, Reps.same s h2⟩
  | .dct, v, h => by simp only [Rep] at h ⊢; obtain ⟨a, vs, e, h1⟩ := h; exact ⟨a, vs, e, s _ _ h1⟩
theorem Reps.same {H H' : Hp} (s : Same H H') : ∀ {ds : List D} {vs : List V}, Reps H ds vs → Reps H' ds vs
  | [], vs, h => by simp only [Reps] at h ⊢; exact h
  | d :: ds, vs, h => by simp only [Reps] at h ⊢; obtain ⟨v, r, e, h1, h2⟩ := h; exact ⟨v, r, e, Rep.same s h1, Reps.same s h2⟩
end
mutual
theorem pyEq_refl : ∀ d : D, pyEq d d = true
  | .non => by simp [pyEq]
  | .bl b => by simp [pyEq]
  | .int b => by simp [pyEq]
  | .str b => by simp [pyEq]
  | .lst ds => by simp only [pyEq]; exact pyEqs_refl ds
  | .tup ds => by simp only [pyEq]; exact pyEqs_refl ds
  | .dct => by simp only [pyEq]
theorem pyEqs_refl : ∀ ds : List D, pyEqs ds ds = true
  | [] => by simp [pyEqs]
  | d :: ds => by simp only [pyEqs]; rw [pyEq_refl d, pyEqs_refl ds]; rfl
end
mutual
theorem Rep.inj {H : Hp} : ∀ {d e : D} {v : V}, Rep H d v → Rep H e v → d = e
  | .non, e, v, h, h' => by simp only [Rep] at h; subst h; cases e <;> simp only [Rep] at h' <;> first | rfl | (cases h'; done) | (obtain ⟨_, _, z, _⟩ := h'; cases z)
  | .bl b, e, v, h, h' => by simp only [Rep] at h; subst h; cases e <;> simp only [Rep] at h' <;> first | (cases h'; rfl) | (cases h'; done) | (obtain ⟨_, _, z, _⟩ := h'; cases z)
  | .int b, e, v, h, h' => by simp only [Rep] at h; subst h; cases e <;> simp only [Rep] at h' <;> first | (cases h'; rfl) | (cases h'; done) | (obtain ⟨_, _, z, _⟩ := h'; cases z)
  | .str b, e, v, h, h' => by simp only [Rep] at h; subst h; cases e <;> simp only [Rep] at h' <;> first | (cases h'; rfl) | (cases h'; done) | (obtain ⟨_, _, z, _⟩ := h'; cases z)
  | .lst ds, e, v, h, h' => by
    simp only [Rep] at h
    obtain ⟨a, vs, rfl, h1, h2⟩ := h
    cases e <;> simp only [Rep] at h' <;> first | (cases h'; done) | skip
    · obtain ⟨a', vs', z, h1', h2'⟩ := h'
      cases z
      rw [h1] at h1'
      cases h1'
      rw [Reps.inj h2 h2']
    · obtain ⟨a', vs', z, h1', h2'⟩ := h'
      cases z
      rw [h1] at h1'
      cases h1'
    · obtain ⟨a', vs', z, h1'⟩ := h'
      cases z
      rw [h1] at h1'
      cases h1'
  | .tup ds, e, v, h, h' => by
    simp only [Rep] at h
    obtain ⟨a, vs, rfl, h1, h2⟩ := h
    cases e <;> simp only [Rep] at h' <;> first | (cases h'; done) | skip
    · obtain ⟨a', vs', z, h1', h2'⟩ := h'
      cases z
      rw [h1] at h1'
      cases h1'
    · obtain ⟨a', vs', z, h1', h2'⟩ := h'
      cases z
      rw [h1] at h1'
      cases h1'
      rw [Reps.inj h2 h2']
    · obtain ⟨a', vs', z, h1'⟩ := h'
      cases z
      rw [h1] at h1'
      cases h1'
  | .dct, e, v, h, h' => by
    simp only [Rep] at h
    obtain ⟨a, vs, rfl, h1⟩ := h
    cases e <;> simp only [Rep] at h' <;> first | rfl | (cases h'; done) | skip
    · obtain ⟨a', vs', z, h1', h2'⟩ := h'
      cases z
      rw [h1] at h1'
      cases h1'
    · obtain ⟨a', vs', z, h1', h2'⟩ := h'
      cases z
      rw [h1] at h1'
      cases h1'
theorem Reps.inj {H : Hp} : ∀ {ds es : List D} {vs : List V}, Reps H ds vs → Reps H es vs → ds = es
  | [], es, vs, h, h' => by
    simp only [Reps] at h
    subst h
    cases es with
    | nil => rfl
    | cons e es => simp only [Reps] at h'; obtain ⟨_, _, z, _⟩ := h'; cases z
  | d :: ds, es, vs, h, h' => by
    simp only [Reps] at h
    obtain ⟨v, r, rfl, h1, h2⟩ := h
    cases es with
    | nil => simp only [Reps] at h'; cases h'
    | cons e es =>
      simp only [Reps] at h'
      obtain ⟨_, _, z, h1', h2'⟩ := h'
      cases z
      rw [Rep.inj h1 h1', Reps.inj h2 h2']
end
end L2
namespace L2
open PySem PySem.Spec PyProof.Rows PySem.SeqAt
theorem eqAt_of_rc {A : Around} {s : Shared} {v u : Value} {b : Bool} (hf : ∀ c t, v ≠ .float c t) (hs : v = u → b = true) (h : RcAt A s v u b) : EqAt A s v u b := fun prog w E Q hq => by
  unfold eqBool
  refine wpAny_holding ?_
  refine wpAny_ite_split (fun hab => ?_) (fun _ => ?_)
  · rw [hs (eq_of_beq hab)] at hq
    exact wpAny_bind (wpAny_rule (wpAny_pure hq))
  · cases v <;> first
      | exact absurd rfl (hf _ _)
      | exact wpAny_bind (h prog w E _ (wpAny_truthy_bool hq))
theorem Rep.noflt {H : Hp} {d : D} {x : V} {v : Value} (h : Rep H d x) (r : RelV x v) : ∀ c t, v ≠ .float c t := fun c t z => by
  subst z
  cases d <;> simp only [Rep] at h
  · subst h; cases (show Value.float c t = Value.none from r)
  · subst h; cases (show Value.float c t = Value.bool _ from r)
  · subst h; obtain ⟨_, z⟩ := r; cases z
  · subst h; obtain ⟨_, z⟩ := r; cases z
  · obtain ⟨a, _, rfl, _⟩ := h; cases (show Value.float c t = Value.ref a from r)
  · obtain ⟨a, _, rfl, _⟩ := h; cases (show Value.float c t = Value.ref a from r)
  · obtain ⟨a, _, rfl, _⟩ := h; cases (show Value.float c t = Value.ref a from r)
def eqIx (ds es : List D) (j : Nat) : Bool := pyEq (ds.getD j .non) (es.getD j .non)
theorem pyEqs_range : ∀ {ds es : List D}, ds.length = es.length → (List.range ds.length).all (eqIx ds es) = pyEqs ds es
  | [], [], _ => by simp [pyEqs]
  | [], _ :: _, h => by simp at h
  | _ :: _, [], h => by simp at h
  | d :: ds, e :: es, h => by
    rw [List.length_cons, List.range_succ_eq_map, List.all_cons, List.all_map]
    have ih := pyEqs_range (ds := ds) (es := es) (by simpa using h)
    simp only [pyEqs]
    rw [← ih]
    rfl
theorem pyEqs_len : ∀ {ds es : List D}, ds.length ≠ es.length → pyEqs ds es = false
  | [], [], h => by simp at h
  | [], _ :: _, _ => by simp [pyEqs]
  | _ :: _, [], _ => by simp [pyEqs]
  | d :: ds, e :: es, h => by
    simp only [pyEqs]
    rw [pyEqs_len (ds := ds) (es := es) (by simpa using h), Bool.and_false]
theorem Reps.get {H : Hp} : ∀ {ds : List D} {vs : List V} {j : Nat}, Reps H ds vs → j < ds.length → ∃ v, vs[j]? = some v ∧ Rep H (ds.getD j .non) v
  | [], _, _, _, h => by simp at h
  | d :: ds, vs, j, h, hj => by
    simp only [Reps] at h
    obtain ⟨v, r, rfl, h1, h2⟩ := h
    cases j with
    | zero => exact ⟨v, rfl, h1⟩
    | succ j =>
      obtain ⟨w, e, h3⟩ := Reps.get h2 (show j < ds.length by simpa using hj)
      exact ⟨w, by simpa using e, h3⟩
theorem D.dep_get : ∀ (ds : List D) (j : Nat), (ds.getD j .non).dep ≤ D.deps ds
  | [], j => by simp [D.dep, D.deps]
  | d :: ds, 0 => by simp only [D.deps, List.getD_cons_zero]; omega
  | d :: ds, j + 1 => by
    have := D.dep_get ds j
    simp only [D.deps, List.getD_cons_succ]
    omega
theorem len_min_all {n m : Nat} {e : Nat → Bool} {ds es : List D} (hn : n = ds.length) (hm : m = es.length) (he : e = eqIx ds es) : ((List.range (min n m)).all e && n == m) = pyEqs ds es := by
  subst hn hm he
  by_cases h : ds.length = es.length
  · rw [h, Nat.min_self, ← h, pyEqs_range h]
    simp
  · rw [pyEqs_len h, beq_eq_false_iff_ne.mpr h, Bool.and_false]
theorem rep_rc {P : Program} {w : World} : ∀ (n : Nat) {A : Around} {s : Shared} {H : Hp} {d e : D} {x y : V} {v u : Value}, HOk P w H s.heap → d.dep ≤ n → e.dep ≤ n → n < 1000 → Rep H d x → Rep H e y → RelV x v → RelV y u → A.units + n < cLine → RcAt A s v u (pyEq d e)
  | n, A, s, H, d, e, x, y, v, u, hok, hn, hn', hlt, hd, he, rx, ry, hu => by
    have hu0 : A.units < cLine := by omega
    have items : ∀ {ds es : List D} {vs us : List V} {its its2 : List Value}, D.deps ds + 1 ≤ n → D.deps es + 1 ≤ n → Reps H ds vs → Reps H es us → Vals vs its → Vals us its2 → ∀ j (h1 : j < its.toArray.size) (h2 : j < its2.toArray.size), EqAt A.in1 s its.toArray[j] its2.toArray[j] (eqIx ds es j) := by
      intro ds es vs us its its2 hdep hdep' r1 r2 v1 v2 j h1 h2
      have l1 := r1.length
      have l2 := r2.length
      have l3 := v1.length
      have l4 := v2.length
      rw [List.size_toArray] at h1 h2
      obtain ⟨a, ea, ra⟩ := r1.get (j := j) (by omega)
      obtain ⟨b, eb, rb⟩ := r2.get (j := j) (by omega)
      obtain ⟨va, eva, rva⟩ := v1.get ea
      obtain ⟨vb, evb, rvb⟩ := v2.get eb
      have ga : its.toArray[j]'(by simpa using h1) = va := by
        rw [List.getElem?_eq_getElem h1] at eva
        simpa using Option.some.inj eva
      have gb : its2.toArray[j]'(by simpa using h2) = vb := by
        rw [List.getElem?_eq_getElem h2] at evb
        simpa using Option.some.inj evb
      rw [ga, gb]
      have hdj := D.dep_get ds j
      have hdj' := D.dep_get es j
      refine eqAt_of_rc (ra.noflt rva) (fun z => ?_) (rep_rc (n - 1) hok (by omega) (by omega) (by omega) ra rb rva rvb (by rw [Around.in1_units]; omega))
      subst z
      have := rva.inj rvb
      subst this
      have := ra.inj rb
      unfold eqIx
      rw [this]
      exact pyEq_refl _
    cases d with
    | dct => simp only [D.dep] at hn; omega
    | non =>
      simp only [Rep] at hd; subst hd
      cases (show v = Value.none from rx)
      cases e with
      | dct => simp only [D.dep] at hn'; omega
      | non => simp only [Rep] at he; subst he; cases (show u = Value.none from ry); simp only [pyEq]; exact RcAt.none_none
      | bl b => simp only [Rep] at he; subst he; cases (show u = Value.bool b from ry); simp only [pyEq]; exact RcAt.none_bool _
      | int b => simp only [Rep] at he; subst he; obtain ⟨t, rfl⟩ := ry; simp only [pyEq]; exact RcAt.none_int _ _
      | str b => simp only [Rep] at he; subst he; obtain ⟨t, rfl⟩ := ry; simp only [pyEq]; exact RcAt.none_str _ _
      | lst ds => simp only [Rep] at he; obtain ⟨a, vs, rfl, h1, h2⟩ := he; cases (show u = Value.ref a from ry); obtain ⟨_, its, k, _, h3⟩ := (show ObjOk P w H s.heap a (.lst vs) from hok a _ h1); simp only [pyEq]; exact RcAt.none_list (items := its.toArray) ⟨_, h3, rfl, k, rfl⟩ hu0
      | tup ds => simp only [Rep] at he; obtain ⟨a, vs, rfl, h1, h2⟩ := he; cases (show u = Value.ref a from ry); obtain ⟨_, its, _, h3⟩ := (show ObjOk P w H s.heap a (.tup vs) from hok a _ h1); simp only [pyEq]; exact RcAt.none_tuple h3 hu0
    | bl c =>
      simp only [Rep] at hd; subst hd
      cases (show v = Value.bool c from rx)
      cases e with
      | dct => simp only [D.dep] at hn'; omega
      | non => simp only [Rep] at he; subst he; cases (show u = Value.none from ry); simp only [pyEq]; exact RcAt.bool_none _
      | bl b => simp only [Rep] at he; subst he; cases (show u = Value.bool b from ry); simp only [pyEq]; exact RcAt.bool_bool _ _
      | int b => simp only [Rep] at he; subst he; obtain ⟨t, rfl⟩ := ry; simp only [pyEq]; exact RcAt.bool_int _ _ _
      | str b => simp only [Rep] at he; subst he; obtain ⟨t, rfl⟩ := ry; simp only [pyEq]; exact RcAt.bool_str _ _ _
      | lst ds => simp only [Rep] at he; obtain ⟨a, vs, rfl, h1, h2⟩ := he; cases (show u = Value.ref a from ry); obtain ⟨_, its, k, _, h3⟩ := (show ObjOk P w H s.heap a (.lst vs) from hok a _ h1); simp only [pyEq]; exact RcAt.bool_list (items := its.toArray) _ ⟨_, h3, rfl, k, rfl⟩ hu0
      | tup ds => simp only [Rep] at he; obtain ⟨a, vs, rfl, h1, h2⟩ := he; cases (show u = Value.ref a from ry); obtain ⟨_, its, _, h3⟩ := (show ObjOk P w H s.heap a (.tup vs) from hok a _ h1); simp only [pyEq]; exact RcAt.bool_tuple _ h3 hu0
    | int c =>
      simp only [Rep] at hd; subst hd
      obtain ⟨t', rfl⟩ := rx
      cases e with
      | dct => simp only [D.dep] at hn'; omega
      | non => simp only [Rep] at he; subst he; cases (show u = Value.none from ry); simp only [pyEq]; exact RcAt.int_none _ _
      | bl b => simp only [Rep] at he; subst he; cases (show u = Value.bool b from ry); simp only [pyEq]; exact RcAt.int_bool _ _ _
      | int b => simp only [Rep] at he; subst he; obtain ⟨t, rfl⟩ := ry; simp only [pyEq]; exact RcAt.int_int _ _ _ _
      | str b => simp only [Rep] at he; subst he; obtain ⟨t, rfl⟩ := ry; simp only [pyEq]; exact RcAt.int_str _ _ _ _
      | lst ds => simp only [Rep] at he; obtain ⟨a, vs, rfl, h1, h2⟩ := he; cases (show u = Value.ref a from ry); obtain ⟨_, its, k, _, h3⟩ := (show ObjOk P w H s.heap a (.lst vs) from hok a _ h1); simp only [pyEq]; exact RcAt.int_list (items := its.toArray) _ _ ⟨_, h3, rfl, k, rfl⟩ hu0
      | tup ds => simp only [Rep] at he; obtain ⟨a, vs, rfl, h1, h2⟩ := he; cases (show u = Value.ref a from ry); obtain ⟨_, its, _, h3⟩ := (show ObjOk P w H s.heap a (.tup vs) from hok a _ h1); simp only [pyEq]; exact RcAt.int_tuple _ _ h3 hu0
    | str c =>
      simp only [Rep] at hd; subst hd
      obtain ⟨t', rfl⟩ := rx
      cases e with
      | dct => simp only [D.dep] at hn'; omega
      | non => simp only [Rep] at he; subst he; cases (show u = Value.none from ry); simp only [pyEq]; exact RcAt.str_none _ _
      | bl b => simp only [Rep] at he; subst he; cases (show u = Value.bool b from ry); simp only [pyEq]; exact RcAt.str_bool _ _ _
      | int b => simp only [Rep] at he; subst he; obtain ⟨t, rfl⟩ := ry; simp only [pyEq]; exact RcAt.str_int _ _ _ _
      | str b => simp only [Rep] at he; subst he; obtain ⟨t, rfl⟩ := ry; simp only [pyEq]; exact RcAt.str_str _ _ _ _
      | lst ds => simp only [Rep] at he; obtain ⟨a, vs, rfl, h1, h2⟩ := he; cases (show u = Value.ref a from ry); obtain ⟨_, its, k, _, h3⟩ := (show ObjOk P w H s.heap a (.lst vs) from hok a _ h1); simp only [pyEq]; exact RcAt.str_list (items := its.toArray) _ _ ⟨_, h3, rfl, k, rfl⟩ hu0
      | tup ds => simp only [Rep] at he; obtain ⟨a, vs, rfl, h1, h2⟩ := he; cases (show u = Value.ref a from ry); obtain ⟨_, its, _, h3⟩ := (show ObjOk P w H s.heap a (.tup vs) from hok a _ h1); simp only [pyEq]; exact RcAt.str_tuple _ _ h3 hu0
    | lst cs =>
      simp only [Rep] at hd
      obtain ⟨b, ws, rfl, g1, g2⟩ := hd
      cases (show v = Value.ref b from rx)
      obtain ⟨_, jts, m, g4, g3⟩ := (show ObjOk P w H s.heap b (.lst ws) from hok b _ g1)
      have gl : s.heap.IsList b jts.toArray := ⟨_, g3, rfl, m, rfl⟩
      cases e with
      | dct => simp only [D.dep] at hn'; omega
      | non => simp only [Rep] at he; subst he; cases (show u = Value.none from ry); simp only [pyEq]; exact RcAt.list_none gl hu0
      | bl b => simp only [Rep] at he; subst he; cases (show u = Value.bool b from ry); simp only [pyEq]; exact RcAt.list_bool _ gl hu0
      | int b => simp only [Rep] at he; subst he; obtain ⟨t, rfl⟩ := ry; simp only [pyEq]; exact RcAt.list_int _ _ gl hu0
      | str b => simp only [Rep] at he; subst he; obtain ⟨t, rfl⟩ := ry; simp only [pyEq]; exact RcAt.list_str _ _ gl hu0
      | lst ds =>
        simp only [Rep] at he
        obtain ⟨a, vs, rfl, h1, h2⟩ := he
        cases (show u = Value.ref a from ry)
        obtain ⟨_, its, k, h4, h3⟩ := (show ObjOk P w H s.heap a (.lst vs) from hok a _ h1)
        simp only [pyEq]
        have l1 := g2.length
        have l2 := h2.length
        have l3 := g4.length
        have l4 := h4.length
        by_cases hl : cs.length = ds.length
        · rw [← pyEqs_range hl]
          have e1 : cs.length = jts.toArray.size := by rw [List.size_toArray]; omega
          rw [e1]
          exact RcAt.lists gl ⟨_, h3, rfl, k, rfl⟩ (by rw [List.size_toArray, List.size_toArray]; omega) hu0 (items (by simp only [D.dep] at hn; omega) (by simp only [D.dep] at hn'; omega) g2 h2 g4 h4)
        · rw [pyEqs_len hl]
          exact RcAt.lists_lengths (items2 := its.toArray) gl ⟨_, h3, rfl, k, rfl⟩ (by rw [List.size_toArray, List.size_toArray]; exact bne_iff_ne.mpr (by omega)) hu0
      | tup ds => simp only [Rep] at he; obtain ⟨a, vs, rfl, h1, h2⟩ := he; cases (show u = Value.ref a from ry); obtain ⟨_, its, _, h3⟩ := (show ObjOk P w H s.heap a (.tup vs) from hok a _ h1); simp only [pyEq]; exact RcAt.list_tuple gl h3 hu0
    | tup cs =>
      simp only [Rep] at hd
      obtain ⟨b, ws, rfl, g1, g2⟩ := hd
      cases (show v = Value.ref b from rx)
      obtain ⟨_, jts, g4, gl⟩ := (show ObjOk P w H s.heap b (.tup ws) from hok b _ g1)
      cases e with
      | dct => simp only [D.dep] at hn'; omega
      | non => simp only [Rep] at he; subst he; cases (show u = Value.none from ry); simp only [pyEq]; exact RcAt.tuple_none gl hu0
      | bl b => simp only [Rep] at he; subst he; cases (show u = Value.bool b from ry); simp only [pyEq]; exact RcAt.tuple_bool _ gl hu0
      | int b => simp only [Rep] at he; subst he; obtain ⟨t, rfl⟩ := ry; simp only [pyEq]; exact RcAt.tuple_int _ _ gl hu0
      | str b => simp only [Rep] at he; subst he; obtain ⟨t, rfl⟩ := ry; simp only [pyEq]; exact RcAt.tuple_str _ _ gl hu0
      | lst ds => simp only [Rep] at he; obtain ⟨a, vs, rfl, h1, h2⟩ := he; cases (show u = Value.ref a from ry); obtain ⟨_, its, k, _, h3⟩ := (show ObjOk P w H s.heap a (.lst vs) from hok a _ h1); simp only [pyEq]; exact RcAt.tuple_list (items2 := its.toArray) gl ⟨_, h3, rfl, k, rfl⟩ hu0
      | tup ds =>
        simp only [Rep] at he
        obtain ⟨a, vs, rfl, h1, h2⟩ := he
        cases (show u = Value.ref a from ry)
        obtain ⟨_, its, h4, h3⟩ := (show ObjOk P w H s.heap a (.tup vs) from hok a _ h1)
        simp only [pyEq]
        have l1 := g2.length
        have l2 := h2.length
        have l3 := g4.length
        have l4 := h4.length
        rw [← len_min_all (n := jts.toArray.size) (m := its.toArray.size) (by rw [List.size_toArray]; omega) (by rw [List.size_toArray]; omega) rfl]
        exact RcAt.tuples gl h3 hu0 (items (by simp only [D.dep] at hn; omega) (by simp only [D.dep] at hn'; omega) g2 h2 g4 h4)
termination_by n => n
decreasing_by all_goals simp_wf; omega
theorem rep_rcne {P : Program} {w : World} : ∀ (n : Nat) {A : Around} {s : Shared} {H : Hp} {d e : D} {x y : V} {v u : Value}, HOk P w H s.heap → d.dep ≤ n → e.dep ≤ n → n < 1000 → Rep H d x → Rep H e y → RelV x v → RelV y u → A.units + n < cLine → RcNeAt A s v u (!pyEq d e)
  | n, A, s, H, d, e, x, y, v, u, hok, hn, hn', hlt, hd, he, rx, ry, hu => by
    have hu0 : A.units < cLine := by omega
    have items : ∀ {ds es : List D} {vs us : List V} {its its2 : List Value}, D.deps ds + 1 ≤ n → D.deps es + 1 ≤ n → Reps H ds vs → Reps H es us → Vals vs its → Vals us its2 → ∀ j (h1 : j < its.toArray.size) (h2 : j < its2.toArray.size), EqAt A.in1 s its.toArray[j] its2.toArray[j] (eqIx ds es j) := by
      intro ds es vs us its its2 hdep hdep' r1 r2 v1 v2 j h1 h2
      have l1 := r1.length
      have l2 := r2.length
      have l3 := v1.length
      have l4 := v2.length
      rw [List.size_toArray] at h1 h2
      obtain ⟨a, ea, ra⟩ := r1.get (j := j) (by omega)
      obtain ⟨b, eb, rb⟩ := r2.get (j := j) (by omega)
      obtain ⟨va, eva, rva⟩ := v1.get ea
      obtain ⟨vb, evb, rvb⟩ := v2.get eb
      have ga : its.toArray[j]'(by simpa using h1) = va := by
        rw [List.getElem?_eq_getElem h1] at eva
        simpa using Option.some.inj eva
      have gb : its2.toArray[j]'(by simpa using h2) = vb := by
        rw [List.getElem?_eq_getElem h2] at evb
        simpa using Option.some.inj evb
      rw [ga, gb]
      have hdj := D.dep_get ds j
      have hdj' := D.dep_get es j
      refine eqAt_of_rc (ra.noflt rva) (fun z => ?_) (rep_rc (n - 1) hok (by omega) (by omega) (by omega) ra rb rva rvb (by rw [Around.in1_units]; omega))
      subst z
      have := rva.inj rvb
      subst this
      have := ra.inj rb
      unfold eqIx
      rw [this]
      exact pyEq_refl _
    cases d with
    | dct => simp only [D.dep] at hn; omega
    | non =>
      simp only [Rep] at hd; subst hd
      cases (show v = Value.none from rx)
      cases e with
      | dct => simp only [D.dep] at hn'; omega
      | non => simp only [Rep] at he; subst he; cases (show u = Value.none from ry); simp only [pyEq]; exact RcNeAt.none_none
      | bl b => simp only [Rep] at he; subst he; cases (show u = Value.bool b from ry); simp only [pyEq]; exact RcNeAt.none_bool _
      | int b => simp only [Rep] at he; subst he; obtain ⟨t, rfl⟩ := ry; simp only [pyEq]; exact RcNeAt.none_int _ _
      | str b => simp only [Rep] at he; subst he; obtain ⟨t, rfl⟩ := ry; simp only [pyEq]; exact RcNeAt.none_str _ _
      | lst ds => simp only [Rep] at he; obtain ⟨a, vs, rfl, h1, h2⟩ := he; cases (show u = Value.ref a from ry); obtain ⟨_, its, k, _, h3⟩ := (show ObjOk P w H s.heap a (.lst vs) from hok a _ h1); simp only [pyEq]; exact RcNeAt.none_list (items := its.toArray) ⟨_, h3, rfl, k, rfl⟩ hu0
      | tup ds => simp only [Rep] at he; obtain ⟨a, vs, rfl, h1, h2⟩ := he; cases (show u = Value.ref a from ry); obtain ⟨_, its, _, h3⟩ := (show ObjOk P w H s.heap a (.tup vs) from hok a _ h1); simp only [pyEq]; exact RcNeAt.none_tuple h3 hu0
    | bl c =>
      simp only [Rep] at hd; subst hd
      cases (show v = Value.bool c from rx)
      cases e with
      | dct => simp only [D.dep] at hn'; omega
      | non => simp only [Rep] at he; subst he; cases (show u = Value.none from ry); simp only [pyEq]; exact RcNeAt.bool_none _
      | bl b => simp only [Rep] at he; subst he; cases (show u = Value.bool b from ry); simp only [pyEq]; exact RcNeAt.bool_bool _ _
      | int b => simp only [Rep] at he; subst he; obtain ⟨t, rfl⟩ := ry; simp only [pyEq]; exact RcNeAt.bool_int _ _ _
      | str b => simp only [Rep] at he; subst he; obtain ⟨t, rfl⟩ := ry; simp only [pyEq]; exact RcNeAt.bool_str _ _ _
      | lst ds => simp only [Rep] at he; obtain ⟨a, vs, rfl, h1, h2⟩ := he; cases (show u = Value.ref a from ry); obtain ⟨_, its, k, _, h3⟩ := (show ObjOk P w H s.heap a (.lst vs) from hok a _ h1); simp only [pyEq]; exact RcNeAt.bool_list (items := its.toArray) _ ⟨_, h3, rfl, k, rfl⟩ hu0
      | tup ds => simp only [Rep] at he; obtain ⟨a, vs, rfl, h1, h2⟩ := he; cases (show u = Value.ref a from ry); obtain ⟨_, its, _, h3⟩ := (show ObjOk P w H s.heap a (.tup vs) from hok a _ h1); simp only [pyEq]; exact RcNeAt.bool_tuple _ h3 hu0
    | int c =>
      simp only [Rep] at hd; subst hd
      obtain ⟨t', rfl⟩ := rx
      cases e with
      | dct => simp only [D.dep] at hn'; omega
      | non => simp only [Rep] at he; subst he; cases (show u = Value.none from ry); simp only [pyEq]; exact RcNeAt.int_none _ _
      | bl b => simp only [Rep] at he; subst he; cases (show u = Value.bool b from ry); simp only [pyEq]; exact RcNeAt.int_bool _ _ _
      | int b => simp only [Rep] at he; subst he; obtain ⟨t, rfl⟩ := ry; simp only [pyEq]; exact RcNeAt.int_int _ _ _ _
      | str b => simp only [Rep] at he; subst he; obtain ⟨t, rfl⟩ := ry; simp only [pyEq]; exact RcNeAt.int_str _ _ _ _
      | lst ds => simp only [Rep] at he; obtain ⟨a, vs, rfl, h1, h2⟩ := he; cases (show u = Value.ref a from ry); obtain ⟨_, its, k, _, h3⟩ := (show ObjOk P w H s.heap a (.lst vs) from hok a _ h1); simp only [pyEq]; exact RcNeAt.int_list (items := its.toArray) _ _ ⟨_, h3, rfl, k, rfl⟩ hu0
      | tup ds => simp only [Rep] at he; obtain ⟨a, vs, rfl, h1, h2⟩ := he; cases (show u = Value.ref a from ry); obtain ⟨_, its, _, h3⟩ := (show ObjOk P w H s.heap a (.tup vs) from hok a _ h1); simp only [pyEq]; exact RcNeAt.int_tuple _ _ h3 hu0
    | str c =>
      simp only [Rep] at hd; subst hd
      obtain ⟨t', rfl⟩ := rx
      cases e with
      | dct => simp only [D.dep] at hn'; omega
      | non => simp only [Rep] at he; subst he; cases (show u = Value.none from ry); simp only [pyEq]; exact RcNeAt.str_none _ _
      | bl b => simp only [Rep] at he; subst he; cases (show u = Value.bool b from ry); simp only [pyEq]; exact RcNeAt.str_bool _ _ _
      | int b => simp only [Rep] at he; subst he; obtain ⟨t, rfl⟩ := ry; simp only [pyEq]; exact RcNeAt.str_int _ _ _ _
      | str b => simp only [Rep] at he; subst he; obtain ⟨t, rfl⟩ := ry; simp only [pyEq]; exact RcNeAt.str_str _ _ _ _
      | lst ds => simp only [Rep] at he; obtain ⟨a, vs, rfl, h1, h2⟩ := he; cases (show u = Value.ref a from ry); obtain ⟨_, its, k, _, h3⟩ := (show ObjOk P w H s.heap a (.lst vs) from hok a _ h1); simp only [pyEq]; exact RcNeAt.str_list (items := its.toArray) _ _ ⟨_, h3, rfl, k, rfl⟩ hu0
      | tup ds => simp only [Rep] at he; obtain ⟨a, vs, rfl, h1, h2⟩ := he; cases (show u = Value.ref a from ry); obtain ⟨_, its, _, h3⟩ := (show ObjOk P w H s.heap a (.tup vs) from hok a _ h1); simp only [pyEq]; exact RcNeAt.str_tuple _ _ h3 hu0
    | lst cs =>
      simp only [Rep] at hd
      obtain ⟨b, ws, rfl, g1, g2⟩ := hd
      cases (show v = Value.ref b from rx)
      obtain ⟨_, jts, m, g4, g3⟩ := (show ObjOk P w H s.heap b (.lst ws) from hok b _ g1)
      have gl : s.heap.IsList b jts.toArray := ⟨_, g3, rfl, m, rfl⟩
      cases e with
      | dct => simp only [D.dep] at hn'; omega
      | non => simp only [Rep] at he; subst he; cases (show u = Value.none from ry); simp only [pyEq]; exact RcNeAt.list_none gl hu0
      | bl b => simp only [Rep] at he; subst he; cases (show u = Value.bool b from ry); simp only [pyEq]; exact RcNeAt.list_bool _ gl hu0
      | int b => simp only [Rep] at he; subst he; obtain ⟨t, rfl⟩ := ry; simp only [pyEq]; exact RcNeAt.list_int _ _ gl hu0
      | str b => simp only [Rep] at he; subst he; obtain ⟨t, rfl⟩ := ry; simp only [pyEq]; exact RcNeAt.list_str _ _ gl hu0
      | lst ds =>
        simp only [Rep] at he
        obtain ⟨a, vs, rfl, h1, h2⟩ := he
        cases (show u = Value.ref a from ry)
        obtain ⟨_, its, k, h4, h3⟩ := (show ObjOk P w H s.heap a (.lst vs) from hok a _ h1)
        simp only [pyEq]
        have l1 := g2.length
        have l2 := h2.length
        have l3 := g4.length
        have l4 := h4.length
        by_cases hl : cs.length = ds.length
        · rw [← pyEqs_range hl]
          have e1 : cs.length = jts.toArray.size := by rw [List.size_toArray]; omega
          rw [e1]
          exact RcNeAt.lists gl ⟨_, h3, rfl, k, rfl⟩ (by rw [List.size_toArray, List.size_toArray]; omega) hu0 (items (by simp only [D.dep] at hn; omega) (by simp only [D.dep] at hn'; omega) g2 h2 g4 h4)
        · rw [pyEqs_len hl]
          exact RcNeAt.lists_lengths (items2 := its.toArray) gl ⟨_, h3, rfl, k, rfl⟩ (by rw [List.size_toArray, List.size_toArray]; exact bne_iff_ne.mpr (by omega)) hu0
      | tup ds => simp only [Rep] at he; obtain ⟨a, vs, rfl, h1, h2⟩ := he; cases (show u = Value.ref a from ry); obtain ⟨_, its, _, h3⟩ := (show ObjOk P w H s.heap a (.tup vs) from hok a _ h1); simp only [pyEq]; exact RcNeAt.list_tuple gl h3 hu0
    | tup cs =>
      simp only [Rep] at hd
      obtain ⟨b, ws, rfl, g1, g2⟩ := hd
      cases (show v = Value.ref b from rx)
      obtain ⟨_, jts, g4, gl⟩ := (show ObjOk P w H s.heap b (.tup ws) from hok b _ g1)
      cases e with
      | dct => simp only [D.dep] at hn'; omega
      | non => simp only [Rep] at he; subst he; cases (show u = Value.none from ry); simp only [pyEq]; exact RcNeAt.tuple_none gl hu0
      | bl b => simp only [Rep] at he; subst he; cases (show u = Value.bool b from ry); simp only [pyEq]; exact RcNeAt.tuple_bool _ gl hu0
      | int b => simp only [Rep] at he; subst he; obtain ⟨t, rfl⟩ := ry; simp only [pyEq]; exact RcNeAt.tuple_int _ _ gl hu0
      | str b => simp only [Rep] at he; subst he; obtain ⟨t, rfl⟩ := ry; simp only [pyEq]; exact RcNeAt.tuple_str _ _ gl hu0
      | lst ds => simp only [Rep] at he; obtain ⟨a, vs, rfl, h1, h2⟩ := he; cases (show u = Value.ref a from ry); obtain ⟨_, its, k, _, h3⟩ := (show ObjOk P w H s.heap a (.lst vs) from hok a _ h1); simp only [pyEq]; exact RcNeAt.tuple_list (items2 := its.toArray) gl ⟨_, h3, rfl, k, rfl⟩ hu0
      | tup ds =>
        simp only [Rep] at he
        obtain ⟨a, vs, rfl, h1, h2⟩ := he
        cases (show u = Value.ref a from ry)
        obtain ⟨_, its, h4, h3⟩ := (show ObjOk P w H s.heap a (.tup vs) from hok a _ h1)
        simp only [pyEq]
        have l1 := g2.length
        have l2 := h2.length
        have l3 := g4.length
        have l4 := h4.length
        rw [← len_min_all (n := jts.toArray.size) (m := its.toArray.size) (by rw [List.size_toArray]; omega) (by rw [List.size_toArray]; omega) rfl]
        exact RcNeAt.tuples gl h3 hu0 (items (by simp only [D.dep] at hn; omega) (by simp only [D.dep] at hn'; omega) g2 h2 g4 h4)
section
variable {X : Cx}
def rEqD : R2 := fun x y H Q => ∃ d e, Rep H d x ∧ Rep H e y ∧ d.dep ≤ 100 ∧ e.dep ≤ 100 ∧ Q (.bl (pyEq d e)) H
def rNeD : R2 := fun x y H Q => ∃ d e, Rep H d x ∧ Rep H e y ∧ d.dep ≤ 100 ∧ e.dep ≤ 100 ∧ Q (.bl (!pyEq d e)) H
theorem o_eqD (hu : X.A.units + 100 < cLine) : OpR X (compareOp .Eq) rEqD := by
  intro pins s σ H x y v u Q I rx ry h
  obtain ⟨d, e, hd, he, hn, hn', q⟩ := h
  show wpAny _ _ (richCompare .Eq _ _) _ _ s
  exact rep_rc 100 I.hok hn hn' (by decide) hd he rx ry hu _ _ _ _ ⟨.bl (pyEq d e), H, I, rfl, q⟩
theorem o_neD (hu : X.A.units + 100 < cLine) : OpR X (compareOp .NotEq) rNeD := by
  intro pins s σ H x y v u Q I rx ry h
  obtain ⟨d, e, hd, he, hn, hn', q⟩ := h
  show wpAny _ _ (richCompare .NotEq _ _) _ _ s
  exact rep_rcne 100 I.hok hn hn' (by decide) hd he rx ry hu _ _ _ _ ⟨.bl (!pyEq d e), H, I, rfl, q⟩
end
end L2
namespace L2
open PySem PySem.Spec PyProof.Rows
theorem kit_non_str (K : PySem.W.Frag) : PySem.W.kitOne K (.type "NoneType") (.type "str") = some false := by kernel_rfl
theorem kit_non_int (K : PySem.W.Frag) : PySem.W.kitOne K (.type "NoneType") (.type "int") = some false := by kernel_rfl
theorem kit_non_bool (K : PySem.W.Frag) : PySem.W.kitOne K (.type "NoneType") (.type "bool") = some false := by kernel_rfl
theorem kit_non_tuple (K : PySem.W.Frag) : PySem.W.kitOne K (.type "NoneType") (.type "tuple") = some false := by kernel_rfl
theorem kit_non_list (K : PySem.W.Frag) : PySem.W.kitOne K (.type "NoneType") (.type "list") = some false := by kernel_rfl
theorem kit_non_dict (K : PySem.W.Frag) : PySem.W.kitOne K (.type "NoneType") (.type "dict") = some false := by kernel_rfl
theorem kit_bl_str (K : PySem.W.Frag) : PySem.W.kitOne K (.type "bool") (.type "str") = some false := by kernel_rfl
theorem kit_bl_int (K : PySem.W.Frag) : PySem.W.kitOne K (.type "bool") (.type "int") = some true := by kernel_rfl
theorem kit_bl_bool (K : PySem.W.Frag) : PySem.W.kitOne K (.type "bool") (.type "bool") = some true := by kernel_rfl
theorem kit_bl_tuple (K : PySem.W.Frag) : PySem.W.kitOne K (.type "bool") (.type "tuple") = some false := by kernel_rfl
theorem kit_bl_list (K : PySem.W.Frag) : PySem.W.kitOne K (.type "bool") (.type "list") = some false := by kernel_rfl
theorem kit_bl_dict (K : PySem.W.Frag) : PySem.W.kitOne K (.type "bool") (.type "dict") = some false := by kernel_rfl
theorem kit_int_str (K : PySem.W.Frag) : PySem.W.kitOne K (.type "int") (.type "str") = some false := by kernel_rfl
theorem kit_int_int (K : PySem.W.Frag) : PySem.W.kitOne K (.type "int") (.type "int") = some true := by kernel_rfl
theorem kit_int_bool (K : PySem.W.Frag) : PySem.W.kitOne K (.type "int") (.type "bool") = some false := by kernel_rfl
theorem kit_int_tuple (K : PySem.W.Frag) : PySem.W.kitOne K (.type "int") (.type "tuple") = some false := by kernel_rfl
theorem kit_int_list (K : PySem.W.Frag) : PySem.W.kitOne K (.type "int") (.type "list") = some false := by kernel_rfl
theorem kit_int_dict (K : PySem.W.Frag) : PySem.W.kitOne K (.type "int") (.type "dict") = some false := by kernel_rfl
theorem kit_str_str (K : PySem.W.Frag) : PySem.W.kitOne K (.type "str") (.type "str") = some true := by kernel_rfl
theorem kit_str_int (K : PySem.W.Frag) : PySem.W.kitOne K (.type "str") (.type "int") = some false := by kernel_rfl
theorem kit_str_bool (K : PySem.W.Frag) : PySem.W.kitOne K (.type "str") (.type "bool") = some false := by kernel_rfl
theorem kit_str_tuple (K : PySem.W.Frag) : PySem.W.kitOne K (.type "str") (.type "tuple") = some false := by kernel_rfl
theorem kit_str_list (K : PySem.W.Frag) : PySem.W.kitOne K (.type "str") (.type "list") = some false := by kernel_rfl
theorem kit_str_dict (K : PySem.W.Frag) : PySem.W.kitOne K (.type "str") (.type "dict") = some false := by kernel_rfl
theorem kit_lst_str (K : PySem.W.Frag) : PySem.W.kitOne K (.type "list") (.type "str") = some false := by kernel_rfl
theorem kit_lst_int (K : PySem.W.Frag) : PySem.W.kitOne K (.type "list") (.type "int") = some false := by kernel_rfl
theorem kit_lst_bool (K : PySem.W.Frag) : PySem.W.kitOne K (.type "list") (.type "bool") = some false := by kernel_rfl
theorem kit_lst_tuple (K : PySem.W.Frag) : PySem.W.kitOne K (.type "list") (.type "tuple") = some false := by kernel_rfl
theorem kit_lst_list (K : PySem.W.Frag) : PySem.W.kitOne K (.type "list") (.type "list") = some true := by kernel_rfl
theorem kit_lst_dict (K : PySem.W.Frag) : PySem.W.kitOne K (.type "list") (.type "dict") = some false := by kernel_rfl
theorem kit_tup_str (K : PySem.W.Frag) : PySem.W.kitOne K (.type "tuple") (.type "str") = some false := by kernel_rfl
theorem kit_tup_int (K : PySem.W.Frag) : PySem.W.kitOne K (.type "tuple") (.type "int") = some false := by kernel_rfl
theorem kit_tup_bool (K : PySem.W.Frag) : PySem.W.kitOne K (.type "tuple") (.type "bool") = some false := by kernel_rfl
theorem kit_tup_tuple (K : PySem.W.Frag) : PySem.W.kitOne K (.type "tuple") (.type "tuple") = some true := by kernel_rfl
theorem kit_tup_list (K : PySem.W.Frag) : PySem.W.kitOne K (.type "tuple") (.type "list") = some false := by kernel_rfl
theorem kit_tup_dict (K : PySem.W.Frag) : PySem.W.kitOne K (.type "tuple") (.type "dict") = some false := by kernel_rfl
theorem kit_dK_str (K : PySem.W.Frag) : PySem.W.kitOne K (.type "dict") (.type "str") = some false := by kernel_rfl
theorem kit_dK_int (K : PySem.W.Frag) : PySem.W.kitOne K (.type "dict") (.type "int") = some false := by kernel_rfl
theorem kit_dK_bool (K : PySem.W.Frag) : PySem.W.kitOne K (.type "dict") (.type "bool") = some false := by kernel_rfl
theorem kit_dK_tuple (K : PySem.W.Frag) : PySem.W.kitOne K (.type "dict") (.type "tuple") = some false := by kernel_rfl
theorem kit_dK_list (K : PySem.W.Frag) : PySem.W.kitOne K (.type "dict") (.type "list") = some false := by kernel_rfl
theorem kit_dK_dict (K : PySem.W.Frag) : PySem.W.kitOne K (.type "dict") (.type "dict") = some true := by kernel_rfl
section
variable {X : Cx} {K : PySem.W.Frag} {σ : St} {H : Hp} {D : Ends} {Q : VK} {E : XK}
def rIs (K : PySem.W.Frag) : List V → Hp → VK → Prop := fun xs H Q => ∃ x T t b, xs = [x, .ty T] ∧ TyOf K H x t ∧ PySem.W.kitOne K t (.type T) = some b ∧ Q (.bl b) H
theorem c_isinst : CallR X (.builtin "isinstance") (rIs X.K) := call_isinst
theorem rd_is {x : V} {T : String} {t : Value} {b : Bool} (ty : TyOf K H x t) (hk : PySem.W.kitOne K t (.type T) = some b) (h : Q (.bl b) H) : rIs K [x, .ty T] H Q := ⟨x, T, t, b, rfl, ty, hk, h⟩
def rLen (K : PySem.W.Frag) : List V → Hp → VK → Prop := fun xs H Q => ∃ x n, xs = [x] ∧ LenV K x H n ∧ Q (.int n) H
theorem c_len : CallR X (.builtin "len") (rLen X.K) := call_len
theorem rd_lenS {z : Str} (hz : z.length ≤ sizeLine) (h : Q (.int z.length) H) : rLen K [.str z] H Q := ⟨_, _, rfl, ⟨hz, rfl⟩, h⟩
theorem rd_lenL {a : Addr} {xs : List V} (e : SqL K H a xs) (h : Q (.int xs.length) H) : rLen K [.ref a] H Q := ⟨_, _, rfl, .inl ⟨xs, e, rfl⟩, h⟩
theorem rd_lenT {a : Addr} {xs : List V} (e : SqT K H a xs) (h : Q (.int xs.length) H) : rLen K [.ref a] H Q := ⟨_, _, rfl, .inr ⟨xs, e, rfl⟩, h⟩
def rMax : List V → Hp → VK → Prop := fun xs H Q => ∃ i j, xs = [.int i, .int j] ∧ Q (.int (max i j)) H
def rMin : List V → Hp → VK → Prop := fun xs H Q => ∃ i j, xs = [.int i, .int j] ∧ Q (.int (min i j)) H
theorem c_max (hc : X.calm = true) : CallR X (.builtin "max") rMax := fun pins s σ H xs us Q I r h => call_max2 hc pins s σ H xs us Q I r (by
  obtain ⟨i, j, e, h⟩ := h
  refine ⟨i, j, e, ?_⟩
  rw [show (if j > i then j else i) = max i j by split <;> omega]
  exact h)
theorem c_min (hc : X.calm = true) : CallR X (.builtin "min") rMin := fun pins s σ H xs us Q I r h => call_min2 hc pins s σ H xs us Q I r (by
  obtain ⟨i, j, e, h⟩ := h
  refine ⟨i, j, e, ?_⟩
  rw [show (if j < i then j else i) = min i j by split <;> omega]
  exact h)
theorem rd_max {i j : Int} (h : Q (.int (max i j)) H) : rMax [.int i, .int j] H Q := ⟨i, j, rfl, h⟩
theorem rd_min {i j : Int} (h : Q (.int (min i j)) H) : rMin [.int i, .int j] H Q := ⟨i, j, rfl, h⟩
def rStrI : List V → Hp → VK → Prop := fun xs H Q => ∃ i, xs = [.int i] ∧ i.natAbs.log2 < 1920 ∧ Q (.str (toString i)) H
theorem c_str : CallR X (.type "str") rStrI := call_str_int
theorem rd_str {i : Int} (hz : i.natAbs.log2 < 1920) (h : Q (.str (toString i)) H) : rStrI [.int i] H Q := ⟨i, rfl, hz, h⟩
theorem rd_call {sp : Sp} {t : TA} (h : t σ H fun vs H1 => sp vs H1 Q E) : tCall sp [] E t σ H Q := by
  unfold tCall
  simp only [List.append_nil]
  exact h
def mkT (xs : List V) (H : Hp) (Q : VK) : Prop := xs.length ≤ sizeLine ∧ ∀ p H1, Same H H1 → H1 p = some (.tup xs) → Q (.ref p) H1
def mkL (xs : List V) (H : Hp) (Q : VK) : Prop := xs.length ≤ sizeLine ∧ ∀ p H1, H p = none → Same H H1 → H1 p = some (.lst xs) → Q (.ref p) H1
def tTupM (t : TA) : TE := fun σ H Q => t σ H fun xs H1 => mkT xs H1 Q
def tLstM (t : TA) : TE := fun σ H Q => t σ H fun xs H1 => mkL xs H1 Q
theorem pe_tupM {es : List Expr} {t : TA} {x1} {pos : Pos} (h : PA X es t) : PE X (.Tuple es x1 pos) (tTupM t) := fun pins s σ H Q I hq =>
  wpAny_Tuple_spliced (thn (h pos pins s σ H _ I hq) fun us s1 ⟨xs, H1, I1, r, z, q⟩ => by
    have hf : H1 s1.heap.objs.size = none := I1.fresh
    exact ⟨r.length ▸ z, .ref s1.heap.objs.size, _, I1.laid (o := .tup xs) (t' := s1.toks) (fun b u => Heap.get?_push_of_some _) (Nat.le_refl _) ⟨z, us, r, _, Heap.get?_push_size _ rfl, rfl, _, rfl⟩, rfl, q _ _ (same_new hf) upd_same⟩)
theorem pe_lstM {es : List Expr} {t : TA} {pos : Pos} (h : PA X es t) : PE X (.List es pos) (tLstM t) := fun pins s σ H Q I hq =>
  wpAny_List_spliced (thn (h pos pins s σ H _ I hq) fun us s1 ⟨xs, H1, I1, r, z, q⟩ => by
    have hf : H1 s1.heap.objs.size = none := I1.fresh
    exact ⟨r.length ▸ z, .ref s1.heap.objs.size, _, I1.laid (o := .lst xs) (t' := s1.toks) (fun b u => Heap.get?_push_of_some _) (Nat.le_refl _) ⟨z, us, 0, r, Heap.get?_push_size _ rfl⟩, rfl, q _ _ hf (same_new hf) upd_same⟩)
theorem rd_mkT {xs : List V} (hz : xs.length ≤ sizeLine) (h : ∀ p H1, Same H H1 → H1 p = some (.tup xs) → Q (.ref p) H1) : mkT xs H Q := ⟨hz, h⟩
theorem rd_mkL {xs : List V} (hz : xs.length ≤ sizeLine) (h : ∀ p H1, H p = none → Same H H1 → H1 p = some (.lst xs) → Q (.ref p) H1) : mkL xs H Q := ⟨hz, h⟩
theorem rd_ixL {a : Addr} {xs : List V} {i : Int} {v : V} (e : SqL K H a xs) (g : atI xs i = some v) (h : Q v H) : rIx K (.ref a) (.int i) H Q := .inl ⟨a, xs, i, v, rfl, rfl, e, g, h⟩
theorem rd_ixT {a : Addr} {xs : List V} {i : Int} {v : V} (e : SqT K H a xs) (g : atI xs i = some v) (h : Q v H) : rIx K (.ref a) (.int i) H Q := .inr (.inl ⟨a, xs, i, v, rfl, rfl, e, g, h⟩)
theorem rd_ixS {z : Str} {i : Int} {c : Nat} (hz : z.length ≤ sizeLine) (g : atI z.cps.toList i = some c) (h : Q (.str ⟨#[c]⟩) H) : rIx K (.str z) (.int i) H Q := .inr (.inr ⟨z, i, c, rfl, rfl, hz, g, h⟩)
theorem rd_slS {z : Str} {lo hi : Option Int} (hz : z.length ≤ sizeLine) (h : Q (.str (Txt.slice z lo hi)) H) : rSlP K (.str z) lo hi H Q := .inl ⟨z, rfl, hz, h⟩
theorem rd_slL {a : Addr} {xs : List V} {lo hi : Option Int} (e : SqL K H a xs) (h : ∀ p H1, H p = none → Same H H1 → H1 p = some (.lst (cutV xs lo hi)) → Q (.ref p) H1) : rSlP K (.ref a) lo hi H Q :=
  .inr (.inl ⟨a, xs, rfl, e, fun p hp => h p _ hp (same_new hp) upd_same⟩)
theorem rd_eqI {i j : Int} (h : Q (.bl (decide (i = j))) H) : rEqD (.int i) (.int j) H Q := ⟨.int i, .int j, by simp only [Rep], by simp only [Rep], by simp [D.dep], by simp [D.dep], by simp only [pyEq]; rw [Bool.beq_eq_decide_eq]; exact h⟩
theorem rd_eqS {i j : Str} (h : Q (.bl (decide (i = j))) H) : rEqD (.str i) (.str j) H Q := ⟨.str i, .str j, by simp only [Rep], by simp only [Rep], by simp [D.dep], by simp [D.dep], by simp only [pyEq]; rw [Bool.beq_eq_decide_eq]; exact h⟩
theorem rd_eqB {i j : Bool} (h : Q (.bl (i == j)) H) : rEqD (.bl i) (.bl j) H Q := ⟨.bl i, .bl j, by simp only [Rep], by simp only [Rep], by simp [D.dep], by simp [D.dep], by simp only [pyEq]; exact h⟩
theorem rd_neI {i j : Int} (h : Q (.bl (!decide (i = j))) H) : rNeD (.int i) (.int j) H Q := ⟨.int i, .int j, by simp only [Rep], by simp only [Rep], by simp [D.dep], by simp [D.dep], by simp only [pyEq]; rw [Bool.beq_eq_decide_eq]; exact h⟩
theorem rd_neS {i j : Str} (h : Q (.bl (!decide (i = j))) H) : rNeD (.str i) (.str j) H Q := ⟨.str i, .str j, by simp only [Rep], by simp only [Rep], by simp [D.dep], by simp [D.dep], by simp only [pyEq]; rw [Bool.beq_eq_decide_eq]; exact h⟩
theorem rd_neB {i j : Bool} (h : Q (.bl (!(i == j))) H) : rNeD (.bl i) (.bl j) H Q := ⟨.bl i, .bl j, by simp only [Rep], by simp only [Rep], by simp [D.dep], by simp [D.dep], by simp only [pyEq]; exact h⟩
theorem start_cc {n : Str} {N : List Str} {v : V} {vs : List V} : start (n :: N) (v :: vs) = some v :: start N vs := by simp [start]
theorem start_cn {n : Str} {N : List Str} : start (n :: N) [] = none :: start N [] := by simp [start, List.replicate_succ]
theorem start_nn : start [] [] = [] := rfl
theorem cxK {CX : CXT} {P : Program} {w : World} {K : PySem.W.Frag} {mg : Str → Option Value} {base : Heap} {N : List Str} {q : Str} {sc : Scope} {f : Addr} {cd : Value} {A : Around} {outer : List Env} {s : Shared} {H : Hp} {E : XK} : (cxOf CX P w K mg base N q sc f cd A outer s H E).nox.K = K := rfl
theorem cxK' {CX : CXT} {P : Program} {w : World} {K : PySem.W.Frag} {mg : Str → Option Value} {base : Heap} {N : List Str} {q : Str} {sc : Scope} {f : Addr} {cd : Value} {A : Around} {outer : List Env} {s : Shared} {H : Hp} {E : XK} : (cxOf CX P w K mg base N q sc f cd A outer s H E).K = K := rfl
theorem compK {X : Cx} {sc : Scope} {N : List Str} {C : Addr} {s : Shared} {H : Hp} {ex : List Addr} : (X.comp sc N C s H ex).K = X.K := rfl
theorem room100 {k : Nat} {A : Around} (r : Room k A) : A.units + 100 < cLine := by have := r.un; omega
theorem ite_dec {p A B : Prop} [Decidable p] (h1 : p → A) (h2 : ¬ p → B) : if decide p = true then A else B := ite2 (fun h => h1 (of_decide_eq_true h)) fun h => h2 (fun z => h (decide_eq_true z))
end
end L2
namespace L2
open PySem PySem.Spec PyProof.Rows
section
variable {X : Cx} {K : PySem.W.Frag} {σ : St} {H : Hp} {D : Ends} {Q : VK} {E : XK}
theorem iteNT {A B : Prop} (h : B) : if (!true) = true then A else B := by simpa using h
theorem iteNF {A B : Prop} (h : A) : if (!false) = true then A else B := by simpa using h
structure PAw (X : Cx) (es : List Expr) (t : TA) : Prop where
  h : PA X es t
section
variable {x : Str} {st : Stmt} {ps : List Str} {f : Addr} {fd : FuncData} {k : Nat} {sp : Sp} {e : Expr} {es : List Expr} {t : TA} {p pos : Pos} {id T : String} {r : List V → Hp → VK → Prop}
end
def ForW (J : It) (g : TG) (tb : TS) (D : Ends) (σ : St) (H : Hp) : Prop := ∃ W : Nat → Nat → St → Hp → Prop, (∃ m, W 0 m σ H) ∧ ∀ i m σ H, W i m σ H →
  (J.stop i H ∧ D.nx σ H) ∨ (J.go i H ∧ ∃ N : St → Hp → Prop, (∀ σ' H', N σ' H' → ∃ m', m' < m ∧ W (i + 1) m' σ' H') ∧ ∀ x H', J.yld i H x H' → g x σ H' fun σ2 H2 => tb { D with nx := N, ct := N, bk := D.nx } σ2 H2)
theorem rd_exL {a : Addr} {xs : List V} {P : Addr → Prop} (e : SqL K H a xs) (h : P a) : ∃ b, V.ref a = V.ref b ∧ (∃ xs, SqL K H b xs) ∧ P b := ⟨a, rfl, ⟨xs, e⟩, h⟩
theorem rd_exT {a : Addr} {xs : List V} {P : Addr → Prop} (e : SqT K H a xs) (h : P a) : ∃ b, V.ref a = V.ref b ∧ (∃ xs, SqT K H b xs) ∧ P b := ⟨a, rfl, ⟨xs, e⟩, h⟩
theorem rd_exr1 {j : Int} {P : Int → Prop} (h1 : -(2 ^ 62) ≤ j ∧ j < 2 ^ 62) (h : P j) : ∃ k : Int, [V.int j] = [.int k] ∧ -(2 ^ 62) ≤ k ∧ k < 2 ^ 62 ∧ P k := ⟨j, rfl, h1.1, h1.2, h⟩
theorem forL {a : Addr} {xs : List V} {g : TG} {tb : TS} (Pv : Nat → St → Hp → Prop) (h0 : Pv 0 σ H) (hl : ∀ i σ H, Pv i σ H → SqL K H a xs)
    (hs : ∀ i x σ H, i < xs.length → xs[i]? = some x → Pv i σ H → g x σ H fun σ2 H2 => tb { nx := Pv (i + 1), rt := D.rt, ct := Pv (i + 1), bk := D.nx } σ2 H2) (hd : ∀ σ H, Pv xs.length σ H → D.nx σ H) : ForW (Itl K a) g tb D σ H :=
  for_list Pv h0 (fun i σ H _ => hl i σ H) (fun i x σ H e p => hs i x σ H (List.getElem?_eq_some_iff.mp e).1 e p) hd
theorem forT {a : Addr} {xs : List V} {g : TG} {tb : TS} (Pv : Nat → St → Hp → Prop) (h0 : Pv 0 σ H) (hl : ∀ i σ H, Pv i σ H → SqT K H a xs)
    (hs : ∀ i x σ H, i < xs.length → xs[i]? = some x → Pv i σ H → g x σ H fun σ2 H2 => tb { nx := Pv (i + 1), rt := D.rt, ct := Pv (i + 1), bk := D.nx } σ2 H2) (hd : ∀ σ H, Pv xs.length σ H → D.nx σ H) : ForW (Itt K a) g tb D σ H :=
  for_tup Pv h0 (fun i σ H _ => hl i σ H) (fun i x σ H e p => hs i x σ H (List.getElem?_eq_some_iff.mp e).1 e p) hd
theorem forR {lo : Int} {n : Nat} {g : TG} {tb : TS} (Pv : Nat → St → Hp → Prop) (h0 : Pv 0 σ H)
    (hs : ∀ i σ H, i < n → Pv i σ H → g (.int (lo + i)) σ H fun σ2 H2 => tb { nx := Pv (i + 1), rt := D.rt, ct := Pv (i + 1), bk := D.nx } σ2 H2) (hd : ∀ σ H, Pv n σ H → D.nx σ H) : ForW (Itr lo n) g tb D σ H :=
  for_range Pv h0 hs hd
theorem forS {z : Str} {g : TG} {tb : TS} (Pv : Nat → St → Hp → Prop) (h0 : Pv 0 σ H)
    (hs : ∀ i c σ H, i < z.cps.toList.length → z.cps.toList[i]? = some c → Pv i σ H → g (.str ⟨#[c]⟩) σ H fun σ2 H2 => tb { nx := Pv (i + 1), rt := D.rt, ct := Pv (i + 1), bk := D.nx } σ2 H2) (hd : ∀ σ H, Pv z.cps.toList.length σ H → D.nx σ H) : ForW (Its z) g tb D σ H := by
  have hl : z.cps.toList.length = z.cps.size := by simp
  refine ⟨fun i m σ H => m = z.cps.size - i ∧ i ≤ z.cps.size ∧ Pv i σ H, ⟨z.cps.size, by simp, Nat.zero_le _, h0⟩, ?_⟩
  rintro i m σ H ⟨rfl, hi, p⟩
  by_cases hlt : i < z.cps.size
  · refine .inr ⟨hlt, Pv (i + 1), fun σ' H' p' => ⟨z.cps.size - (i + 1), by omega, rfl, hlt, p'⟩, fun x H' y => ?_⟩
    obtain ⟨e, c, hc, e'⟩ := y
    subst e e'
    exact hs i c σ _ (by omega) (by simpa using hc) p
  · have e : i = z.cps.size := by omega
    subst e
    exact .inl ⟨rfl, hd σ H (by rw [hl]; exact p)⟩
def rAll (K : PySem.W.Frag) : List V → Hp → VK → Prop := fun xs H Q => ∃ (p : Addr) (bs : List Bool), xs = [.ref p] ∧ SqL K H p (bs.map V.bl) ∧ Q (.bl (bs.all id)) H
theorem c_all (hc : X.calm = true) : CallR X (.builtin "all") (rAll X.K) := call_all hc
theorem rd_all {p : Addr} (bs : List Bool) (e : SqL K H p (bs.map V.bl)) (h : Q (.bl (bs.all id)) H) : rAll K [.ref p] H Q := ⟨p, bs, rfl, e, h⟩
def rList (K : PySem.W.Frag) : List V → Hp → VK → Prop := fun xs H Q => ∃ p ys, xs = [.ref p] ∧ (SqL K H p ys ∨ SqT K H p ys) ∧ ∀ l, H l = none → Q (.ref l) (upd H l (.lst ys))
theorem c_list : CallR X (.type "list") (rList X.K) := call_list_of
theorem rd_listL {p : Addr} {ys : List V} (e : SqL K H p ys) (h : ∀ l H1, H l = none → Same H H1 → H1 l = some (.lst ys) → Q (.ref l) H1) : rList K [.ref p] H Q := ⟨p, ys, rfl, .inl e, fun l hl => h l _ hl (same_new hl) upd_same⟩
end
mutual
def smD : L2.D → Bool
  | .str z => decide (z.length ≤ sizeLine)
  | .lst ds => smDs ds
  | .tup ds => smDs ds
  | _ => true
def smDs : List L2.D → Bool
  | [] => true
  | d :: ds => smD d && smDs ds
end
theorem Same.get {H H1 : Hp} {p : Addr} {o : HO} (s : Same H H1) (e : H p = some o) : H1 p = some o := s p o e
theorem Same.tr {H H1 H2 : Hp} (s : Same H1 H2) (e : Same H H1) : Same H H2 := fun p o h => s p o (e p o h)
theorem Rep.str' {H : Hp} {i : Str} : Rep H (.str i) (.str i) := by simp only [Rep]
theorem Rep.mkT {H : Hp} {p : Addr} {vs : List V} {ds : List L2.D} (h : H p = some (.tup vs)) (r : Reps H ds vs) : Rep H (.tup ds) (.ref p) := by simp only [Rep]; exact ⟨p, vs, rfl, h, r⟩
theorem Rep.mkL {H : Hp} {p : Addr} {vs : List V} {ds : List L2.D} (h : H p = some (.lst vs)) (r : Reps H ds vs) : Rep H (.lst ds) (.ref p) := by simp only [Rep]; exact ⟨p, vs, rfl, h, r⟩
theorem Reps.nil' {H : Hp} : Reps H [] [] := by simp only [Reps]
theorem Reps.cons' {H : Hp} {d : L2.D} {v : V} {ds : List L2.D} {vs : List V} (h : Rep H d v) (r : Reps H ds vs) : Reps H (d :: ds) (v :: vs) := by simp only [Reps]; exact ⟨v, vs, rfl, h, r⟩
theorem Reps.consE {H : Hp} {d : L2.D} {ds : List L2.D} {vs : List V} (h : Reps H (d :: ds) vs) : ∃ v r, vs = v :: r ∧ Rep H d v ∧ Reps H ds r := by simp only [Reps] at h; exact h
theorem Reps.nilE {H : Hp} {vs : List V} (h : Reps H [] vs) : vs = [] := by simp only [Reps] at h; exact h
theorem SqL.same {K : PySem.W.Frag} {H H' : Hp} {a : Addr} {xs : List V} (s : Same H H') (e : SqL K H a xs) : SqL K H' a xs := s.seq e
end L2
namespace L2
open PySem PySem.Spec PyProof.Rows
class RdS (g : Prop) (n : outParam Prop) : Prop where
  imp : n → g
theorem rd_go {g n : Prop} [h : RdS g n] (k : n) : g := h.imp k
class GetS (σ : St) (i : Nat) (v : outParam V) : Prop where
  get : σ[i]? = some (some v)
instance GetS.zero {v : V} {r : St} : GetS (some v :: r) 0 v := ⟨rfl⟩
instance GetS.succ {x : Option V} {r : St} {i : Nat} {v : V} [h : GetS r i v] : GetS (x :: r) (i + 1) v := ⟨by rw [List.getElem?_cons_succ]; exact h.get⟩
class SetS (σ : St) (i : Nat) (v : Option V) (σ' : outParam St) : Prop where
  set : σ.set i v = σ'
instance SetS.zero {x v : Option V} {r : St} : SetS (x :: r) 0 v (v :: r) := ⟨rfl⟩
instance SetS.succ {x v : Option V} {r r' : St} {i : Nat} [h : SetS r i v r'] : SetS (x :: r) (i + 1) v (x :: r') := ⟨by rw [List.set_cons_succ, h.set]⟩
class PickS (ix : List Nat) (σ : St) (σ' : outParam St) : Prop where
  eq : pick ix σ = σ'
instance PickS.nil {σ : St} : PickS [] σ [] := ⟨rfl⟩
instance PickS.cons {i : Nat} {ix : List Nat} {σ σ' : St} {v : V} [g : GetS σ i v] [h : PickS ix σ σ'] : PickS (i :: ix) σ (some v :: σ') := ⟨by
  show ((σ[i]?).join :: pick ix σ) = _
  rw [g.get, h.eq]
  rfl⟩
section
variable {K : PySem.W.Frag} {σ σ' : St} {H : Hp} {D : Ends} {Q : VK} {E : XK} {t u : TS} {te ta tb tc : TE} {c c' : TT} {R : Bool → Hp → Prop} {r r' : R2} {i j : Int} {n : Nat} {v x : V} {a b : Bool} {z y : Str} {P A B : Prop}
instance i1 : RdS (tSeq t u D σ H) (t { D with nx := u D } σ H) := ⟨id⟩
instance i2 {g : TG} : RdS (tAsg te g D σ H) (te σ H fun x H1 => g x σ H1 D.nx) := ⟨id⟩
instance i3 : RdS (tRet te D σ H) (te σ H D.rt) := ⟨id⟩
instance i5 : RdS (tDrop te D σ H) (te σ H fun _ H1 => D.nx σ H1) := ⟨id⟩
instance i6 : RdS (tNext D σ H) (D.nx σ H) := ⟨id⟩
instance i7 : RdS (tIfS c t u D σ H) (c σ H fun b H1 => if b = true then t D σ H1 else u D σ H1) := ⟨id⟩
instance i8 [g : GetS σ n v] : RdS (tVar n σ H Q) (Q v H) := ⟨fun h => ⟨v, g.get, h⟩⟩
instance i9 : RdS (tC v σ H Q) (Q v H) := ⟨id⟩
instance i10 : RdS (tOp r ta tb σ H Q) (ta σ H fun x H1 => tb σ H1 fun y H2 => r x y H2 Q) := ⟨id⟩
instance i12 {g : Int → Int → V} : RdS (rI0 g (.int i) (.int j) H Q) (Q (g i j) H) := ⟨fun h => ⟨i, j, rfl, rfl, h⟩⟩
instance i14 : RdS (rAddP K (.int i) (.int j) H Q) (Q (.int (i + j)) H) := ⟨rd_addI⟩
instance i15 : RdS (rLtP (.int i) (.int j) H Q) (Q (.bl (decide (i < j))) H) := ⟨rd_ltI⟩
instance i16 : RdS (rLtP (.str z) (.str y) H Q) (Q (.bl (decide (z.cps.toList < y.cps.toList))) H) := ⟨rd_ltS⟩
instance i19 : RdS (rEqD (.int i) (.int j) H Q) (Q (.bl (decide (i = j))) H) := ⟨rd_eqI⟩
instance i20 : RdS (rEqD (.str z) (.str y) H Q) (Q (.bl (decide (z = y))) H) := ⟨rd_eqS⟩
instance i21 : RdS (rEqD (.bl a) (.bl b) H Q) (Q (.bl (a == b)) H) := ⟨rd_eqB⟩
instance i22 : RdS (rNeD (.int i) (.int j) H Q) (Q (.bl (!decide (i = j))) H) := ⟨rd_neI⟩
instance i23 : RdS (rNeD (.str z) (.str y) H Q) (Q (.bl (!decide (z = y))) H) := ⟨rd_neS⟩
instance i24 : RdS (rNeD (.bl a) (.bl b) H Q) (Q (.bl (!(a == b))) H) := ⟨rd_neB⟩
instance i25 : RdS (tTest te σ H R) (te σ H fun x H' => ∃ k, x = .bl k ∧ R k H') := ⟨id⟩
instance i26 : RdS (tB te σ H R) (te σ H fun x H' => ∃ k, x = .bl k ∧ R k H') := ⟨id⟩
instance i27 {F : Bool → Prop} : RdS (∃ c, V.bl a = V.bl c ∧ F c) (F a) := ⟨fun h => ⟨a, rfl, h⟩⟩
instance i28 {F : Int → Prop} : RdS (∃ c, V.int i = V.int c ∧ F c) (F i) := ⟨fun h => ⟨i, rfl, h⟩⟩
instance i29 {F : Str → Prop} : RdS (∃ c, V.str z = V.str c ∧ F c) (F z) := ⟨fun h => ⟨z, rfl, h⟩⟩
instance i30 : RdS (tAnd c c' σ H R) (c σ H fun b H1 => if b = true then c' σ H1 R else R false H1) := ⟨id⟩
instance i31 : RdS (tOr c c' σ H R) (c σ H fun b H1 => if b = true then R true H1 else c' σ H1 R) := ⟨id⟩
instance i32 : RdS (tNot c σ H R) (c σ H fun b H1 => R (!b) H1) := ⟨id⟩
instance i33 : RdS (tAndV ta tb σ H Q) (ta σ H fun x H1 => ∃ c, x = .bl c ∧ if c = true then tb σ H1 Q else Q (.bl false) H1) := ⟨id⟩
instance i35 : RdS (tNotV ta σ H Q) (ta σ H fun x H1 => ∃ c, x = .bl c ∧ Q (.bl (!c)) H1) := ⟨id⟩
instance i38 {sp : Sp} {t : TA} : RdS (tCall sp [] E t σ H Q) (t σ H fun vs H1 => sp vs H1 Q E) := ⟨rd_call⟩
instance i39 {r : List V → Hp → VK → Prop} {t : TA} : RdS (tCB r t σ H Q) (t σ H fun vs H1 => r vs H1 Q) := ⟨id⟩
instance i40 {F : List V → Hp → Prop} : RdS (tNil σ H F) (F [] H) := ⟨id⟩
instance i41 {tr : TA} {F : List V → Hp → Prop} : RdS (tCons ta tr σ H F) (ta σ H fun x H1 => tr σ H1 fun xs H2 => F (x :: xs) H2) := ⟨id⟩
instance i42 {t : TA} : RdS (tTupM t σ H Q) (t σ H fun xs H1 => mkT xs H1 Q) := ⟨id⟩
instance i43 {t : TA} : RdS (tLstM t σ H Q) (t σ H fun xs H1 => mkL xs H1 Q) := ⟨id⟩
instance i44 : RdS (rMax [.int i, .int j] H Q) (Q (.int (max i j)) H) := ⟨rd_max⟩
instance i45 : RdS (rMin [.int i, .int j] H Q) (Q (.int (min i j)) H) := ⟨rd_min⟩
instance i50 {r : V → Option Int → Option Int → Hp → VK → Prop} {tl th : TO} : RdS (tSl r te tl th σ H Q) (te σ H fun x H1 => tl σ H1 fun l H2 => th σ H2 fun u H3 => r x l u H3 Q) := ⟨id⟩
instance i51 {F : Option Int → Hp → Prop} : RdS (tNoPart σ H F) (F none H) := ⟨id⟩
instance i52 {F : Option Int → Hp → Prop} : RdS (tPart te σ H F) (te σ H fun x H1 => ∃ i, x = .int i ∧ F (some i) H1) := ⟨id⟩
instance i53 : RdS (if true = true then A else B) A := ⟨iteT⟩
instance i54 : RdS (if false = true then A else B) B := ⟨iteF⟩
instance i55 : RdS (if (!true) = true then A else B) B := ⟨iteNT⟩
instance i56 : RdS (if (!false) = true then A else B) A := ⟨iteNF⟩
instance i57 {ix : List Nat} {wi : TI} : RdS (tLC ix wi c te σ H Q) (wi σ H fun J H1 => LcW J ix σ c te Q H1) := ⟨id⟩
instance i58 {wi : TI} {g : TG} : RdS (tFor wi g t D σ H) (wi σ H fun J H1 => ForW J g t D σ H1) := ⟨id⟩
instance i59 {F : St → Hp → Prop} [s : SetS σ n (some v) σ'] : RdS (gName n v σ H F) (F σ' H) := ⟨fun h => by show F (σ.set n (some v)) H; rw [s.set]; exact h⟩
instance i60 {F : It → Hp → Prop} : RdS (iStr te σ H F) (te σ H fun x H1 => ∃ z, x = .str z ∧ F (Its z) H1) := ⟨id⟩
instance i61 {F : It → Hp → Prop} : RdS (iList K te σ H F) (te σ H fun x H1 => ∃ a, x = .ref a ∧ (∃ xs, SqL K H1 a xs) ∧ F (Itl K a) H1) := ⟨id⟩
instance i62 {F : It → Hp → Prop} : RdS (iTup K te σ H F) (te σ H fun x H1 => ∃ a, x = .ref a ∧ (∃ xs, SqT K H1 a xs) ∧ F (Itt K a) H1) := ⟨id⟩
instance i63 {t : TA} {F : It → Hp → Prop} : RdS (iRng1 t σ H F) (t σ H fun vs H1 => ∃ j : Int, vs = [.int j] ∧ -(2 ^ 62) ≤ j ∧ j < 2 ^ 62 ∧ F (Itr 0 j.toNat) H1) := ⟨id⟩
instance i68 : RdS (tYes σ H R) (R true H) := ⟨id⟩
class KitS (n T : String) (b : outParam Bool) : Prop where
  eq : ∀ K : PySem.W.Frag, PySem.W.kitOne K (.type n) (.type T) = some b
instance : KitS "NoneType" "str" false := ⟨kit_non_str⟩
instance : KitS "NoneType" "int" false := ⟨kit_non_int⟩
instance : KitS "NoneType" "bool" false := ⟨kit_non_bool⟩
instance : KitS "NoneType" "tuple" false := ⟨kit_non_tuple⟩
instance : KitS "NoneType" "list" false := ⟨kit_non_list⟩
instance : KitS "NoneType" "dict" false := ⟨kit_non_dict⟩
instance : KitS "bool" "str" false := ⟨kit_bl_str⟩
instance : KitS "bool" "int" true := ⟨kit_bl_int⟩
instance : KitS "bool" "bool" true := ⟨kit_bl_bool⟩
instance : KitS "bool" "tuple" false := ⟨kit_bl_tuple⟩
instance : KitS "bool" "list" false := ⟨kit_bl_list⟩
instance : KitS "bool" "dict" false := ⟨kit_bl_dict⟩
instance : KitS "int" "str" false := ⟨kit_int_str⟩
instance : KitS "int" "int" true := ⟨kit_int_int⟩
instance : KitS "int" "bool" false := ⟨kit_int_bool⟩
instance : KitS "int" "tuple" false := ⟨kit_int_tuple⟩
instance : KitS "int" "list" false := ⟨kit_int_list⟩
instance : KitS "int" "dict" false := ⟨kit_int_dict⟩
instance : KitS "str" "str" true := ⟨kit_str_str⟩
instance : KitS "str" "int" false := ⟨kit_str_int⟩
instance : KitS "str" "bool" false := ⟨kit_str_bool⟩
instance : KitS "str" "tuple" false := ⟨kit_str_tuple⟩
instance : KitS "str" "list" false := ⟨kit_str_list⟩
instance : KitS "str" "dict" false := ⟨kit_str_dict⟩
instance : KitS "list" "str" false := ⟨kit_lst_str⟩
instance : KitS "list" "int" false := ⟨kit_lst_int⟩
instance : KitS "list" "bool" false := ⟨kit_lst_bool⟩
instance : KitS "list" "tuple" false := ⟨kit_lst_tuple⟩
instance : KitS "list" "list" true := ⟨kit_lst_list⟩
instance : KitS "list" "dict" false := ⟨kit_lst_dict⟩
instance : KitS "tuple" "str" false := ⟨kit_tup_str⟩
instance : KitS "tuple" "int" false := ⟨kit_tup_int⟩
instance : KitS "tuple" "bool" false := ⟨kit_tup_bool⟩
instance : KitS "tuple" "tuple" true := ⟨kit_tup_tuple⟩
instance : KitS "tuple" "list" false := ⟨kit_tup_list⟩
instance : KitS "tuple" "dict" false := ⟨kit_tup_dict⟩
instance : KitS "dict" "str" false := ⟨kit_dK_str⟩
instance : KitS "dict" "int" false := ⟨kit_dK_int⟩
instance : KitS "dict" "bool" false := ⟨kit_dK_bool⟩
instance : KitS "dict" "tuple" false := ⟨kit_dK_tuple⟩
instance : KitS "dict" "list" false := ⟨kit_dK_list⟩
instance : KitS "dict" "dict" true := ⟨kit_dK_dict⟩
instance i70 {T : String} [k : KitS "NoneType" T b] : RdS (rIs K [.non, .ty T] H Q) (Q (.bl b) H) := ⟨rd_is .non (k.eq K)⟩
instance i71 {T : String} [k : KitS "bool" T b] : RdS (rIs K [.bl a, .ty T] H Q) (Q (.bl b) H) := ⟨rd_is (.bl a) (k.eq K)⟩
instance i72 {T : String} [k : KitS "int" T b] : RdS (rIs K [.int i, .ty T] H Q) (Q (.bl b) H) := ⟨rd_is (.int i) (k.eq K)⟩
instance i73 {T : String} [k : KitS "str" T b] : RdS (rIs K [.str z, .ty T] H Q) (Q (.bl b) H) := ⟨rd_is (.str z) (k.eq K)⟩
theorem rd_isT {T : String} [k : KitS "tuple" T b] {p : Addr} {xs : List V} (e : H p = some (.tup xs)) (h : Q (.bl b) H) : rIs K [.ref p, .ty T] H Q := rd_is (.tup e) (k.eq K) h
end
end L2
namespace L2
open PySem PySem.Spec PyProof.Rows PySem.SeqAt
open AutoSeq1 (wpAny_loadPart')
section
variable {X : Cx} {K : PySem.W.Frag} {H : Hp} {Q : VK}
end
end L2
namespace L2
open PySem PySem.Spec PyProof.Rows
structure BE (X : Cx) (e : Expr) (t : TE) : Prop where
  h : PE X e t
structure BT (X : Cx) (e : Expr) (t : TT) : Prop where
  h : PT X e t
structure BW (X : Cx) (e : Expr) (t : TT) : Prop where
  h : PW X e t
structure BA (X : Cx) (es : List Expr) (t : TA) : Prop where
  h : PA X es t
structure BS (X : Cx) (s : Stmt) (t : TS) : Prop where
  h : PS X s t
structure BSs (X : Cx) (s : List Stmt) (t : TS) : Prop where
  h : PSs X s t
structure BG (X : Cx) (e : Expr) (t : TG) : Prop where
  h : PG X e t
structure BGs (X : Cx) (e : List Expr) (t : TGs) : Prop where
  h : PGs X e t
structure BI (X : Cx) (tg e : Expr) (t : TI) : Prop where
  h : PI X tg e t
structure BO (X : Cx) (e : Option Expr) (t : TO) : Prop where
  h : PO X e t
structure BF (X : Cx) (es : List Expr) (t : TT) : Prop where
  h : PIfs X es t
section
variable {X : Cx} {a b c e o : Expr} {es : List Expr} {ta tb tc te : TE} {tA tB' : TT} {t : TA} {pos p p2 : Pos} {st : Stmt} {rest xs ys : List Stmt} {s u : TS}
theorem bv (i : Nat) {x : Str} (hN : X.N[i]? = some x := by rfl) (hv : Vis X.env.scope x := by first | exact Or.inl rfl | exact Or.inr (Or.inl rfl) | exact Or.inr (Or.inr rfl)) (hd : (x == ("__debug__" : Str)) = false := by decide)
    (hcd : (x == ("__classdict__" : Str)) = false := by decide) : BE X (.Name x pos) (tVar i) := ⟨pv i hN hv hd hcd⟩
theorem b_int {i j} : BE X (.Constant (.int i) j pos) (tC (.int i)) := ⟨pe_int⟩
theorem b_bl {i j} : BE X (.Constant (.bool i) j pos) (tC (.bl i)) := ⟨pe_bl⟩
theorem b_str {x j} : BE X (.Constant (.str x) j pos) (tC (.str x)) := ⟨pe_str⟩
theorem b_gl {x : Str} {v : V} (h : ∃ u, X.mg x = some u ∧ RelV v u) (hg : Gl X x := by rfl) (hd : (x == ("__debug__" : Str)) = false := by decide) : BE X (.Name x pos) (tC v) := ⟨pe_gl h hg hd⟩
theorem b_ty {x : Str} {T : String} (hm : X.mg x = none) (hv : bootBuiltins x = some (.type T)) (hg : Gl X x := by rfl) (hn : x ≠ "__name__" := by decide) (hd : (x == ("__debug__" : Str)) = false := by decide) : BE X (.Name x pos) (tC (.ty T)) := ⟨pe_ty hm hv hg hn hd⟩
theorem b_op {op : Operator} {r : R2} (ho : OpR X (binaryOp op) r) (ha : BE X a ta) (hb : BE X b tb) : BE X (.BinOp a op b pos) (tOp r ta tb) := ⟨pe_op ho ha.h hb.h⟩
theorem b_not (ha : BE X a ta) : BE X (.UnaryOp .Not a pos) (tNotV ta) := ⟨pe_not ha.h⟩
theorem b_cmp {op : CmpOp} {r : R2} (ho : OpR X (compareOp op) r) (ha : BE X a ta) (hb : BE X b tb) (hm : behindInMarks op b = false) : BE X (.Compare a [op] [b] pos) (tOp r ta tb) := ⟨pe_cmpR ho ha.h hb.h hm⟩
theorem b_one {op} (h : BE X a ta) : BE X (.BoolOp op [a] pos) ta := ⟨pe_one h.h⟩
theorem b_and (ha : BE X a ta) (hb : BE X (.BoolOp .And (b :: es) pos) tb) : BE X (.BoolOp .And (a :: b :: es) pos) (tAndV ta tb) := ⟨pe_and ha.h hb.h⟩
theorem ba_nil : BA X [] tNil := ⟨pa_nil⟩
theorem ba_c (ha : BE X e te) (hr : BA X es t) (h : isStar e = false) : BA X (e :: es) (tCons te t) := ⟨pa_c ha.h hr.h h⟩
theorem b_lst (h : BA X es t) : BE X (.List es pos) (tLstM t) := ⟨pe_lstM h.h⟩
theorem b_tup {x1} (h : BA X es t) : BE X (.Tuple es x1 pos) (tTupM t) := ⟨pe_tupM h.h⟩
theorem bo_none : BO X none tNoPart := ⟨po_none⟩
theorem bo_some (h : BE X e te) : BO X (some e) (tPart te) := ⟨po_some h.h⟩
theorem b_slice {lo hi : Option Expr} {tl th : TO} {r : V → Option Int → Option Int → Hp → VK → Prop} (hr : SlR X r) (he : BE X e te) (hl : BO X lo tl) (hu : BO X hi th) : BE X (.Subscript e (.Slice lo hi none p2) pos) (tSl r te tl th) := ⟨pe_slice hr he.h hl.h hu.h⟩
theorem b_ix {r : R2} (hr : IxR X r) (ha : BE X a ta) (hb : BE X b tb) (hs : PlainIx b) : BE X (.Subscript a b pos) (tOp r ta tb) := ⟨pe_ix hr ha.h hb.h hs⟩
theorem b_f {x : Str} {sf : Stmt} {ps : List Str} {f : Addr} {fd : FuncData} {k : Nat} {sp : Sp} (N : Fn X.K X.mg x sf ps f fd) (G : FnOk X.prog X.w X.K X.mg X.base CX0 k f fd ps sp) (hr : Room k X.A) (ha : BA X (e :: es) t) (hg : Gl X x := by rfl) (hdb : (x == ("__debug__" : Str)) = false := by decide) (h1 : isStar e = false := by rfl) (h2 : noStar es = true := by rfl) :
    BE X (.Call (.Name x p) (e :: es) [] pos) (tCall sp [] E0 t) := ⟨pe_f N G hr ha.h hg hdb h1 h2⟩
theorem b_b {x : Str} {id : String} {r : List V → Hp → VK → Prop} (hc : CallR X (.builtin id) r) (hm : X.mg x = none) (hv : bootBuiltins x = some (.builtin id)) (ha : BA X (e :: es) t) (hg : Gl X x := by rfl) (hn : x ≠ "__name__" := by decide) (hdb : (x == ("__debug__" : Str)) = false := by decide) (h1 : isStar e = false := by rfl) (h2 : noStar es = true := by rfl) :
    BE X (.Call (.Name x p) (e :: es) [] pos) (tCB r t) := ⟨pe_b hc hm hv ha.h hg hn hdb h1 h2⟩
theorem b_t {x : Str} {T : String} {r : List V → Hp → VK → Prop} (hc : CallR X (.type T) r) (hm : X.mg x = none) (hv : bootBuiltins x = some (.type T)) (ha : BA X (e :: es) t) (hg : Gl X x := by rfl) (hn : x ≠ "__name__" := by decide) (hdb : (x == ("__debug__" : Str)) = false := by decide) (h1 : isStar e = false := by rfl) (h2 : noStar es = true := by rfl) :
    BE X (.Call (.Name x p) (e :: es) [] pos) (tCB r t) := ⟨pe_t hc hm hv ha.h hg hn hdb h1 h2⟩
theorem bi_r1 {tg : Expr} (hm : X.mg "range" = none) (ha : BA X [a] t) (hg : Gl X "range" := by rfl) (h1 : isStar a = false := by rfl) : BI X tg (.Call (.Name "range" p) [a] [] pos) (iRng1 t) := ⟨pi_r1 hm ha.h hg h1⟩
theorem bi_list {tg : Expr} (h : BE X e te) : BI X tg e (iList X.K te) := ⟨pi_list h.h⟩
theorem bi_tup {tg : Expr} (h : BE X e te) : BI X tg e (iTup X.K te) := ⟨pi_tup h.h⟩
theorem bi_str {tg : Expr} (h : BE X e te) : BI X tg e (iStr te) := ⟨pi_str h.h⟩
theorem bf_nil : BF X [] tYes := ⟨pifs_nil⟩
theorem bf_one (h : BT X c tA) : BF X [c] tA := ⟨pifs_one h.h⟩
theorem b_lc {elt iter : Expr} {ifs : List Expr} {px : Pos} {scope osc : Scope} {x : Str} {fv : List Str} {ix : List Nat} {wi : TI} {tt : TT} (hc : X.calm = true) (S₀ : LcScope scope x fv osc) (hix : ix.map (fun i => X.N[i]?) = fv.map some) (hi : BI X (.Name x px) iter wi)
    (ht : ∀ (C : Addr) (s₀ : Shared) (H₀ : Hp) (ex : List Addr), BF (X.comp scope (x :: fv) C s₀ H₀ ex) ifs tt) (he : ∀ (C : Addr) (s₀ : Shared) (H₀ : Hp) (ex : List Addr), BE (X.comp scope (x :: fv) C s₀ H₀ ex) elt te)
    (hosc : X.env.scope = osc := by rfl) (hs : ∀ x, foldedSetIterable iter X.env x = pure x := by intro _; rfl) : BE X (.ListComp elt [⟨.Name x px, iter, ifs, 0⟩] scope pos) (tLC ix wi tt te) :=
  ⟨pe_lc hc S₀ hix hi.h (fun C s₀ H₀ ex => (ht C s₀ H₀ ex).h) (fun C s₀ H₀ ex => (he C s₀ H₀ ex).h) hosc hs⟩
theorem bt_cmp {op : CmpOp} {r : R2} (ho : OpR X (compareOp op) r) (ha : BE X a ta) (hb : BE X b tb) (hm : behindInMarks op b = false) : BT X (.Compare a [op] [b] pos) (tTest (tOp r ta tb)) := ⟨pt_cmpR ho ha.h hb.h hm⟩
theorem bt_val (h : BE X e te) (he : ∀ whole, isTrue e X.env whole = (do let v ← whole; standAt e.pos; holding [v] (truthy v))) : BT X e (tB te) := ⟨pt_val h.h he⟩
theorem bt_not (h : BT X a tA) : BT X (.UnaryOp .Not a pos) (tNot tA) := ⟨pt_not h.h⟩
theorem bt_w (h : BW X e tA) : BT X e tA := ⟨h.h.pt⟩
theorem bw_and1 (h : BT X a tA) : BW X (.BoolOp .And [a] pos) tA := ⟨pw_and1 h.h⟩
theorem bw_or1 (h : BT X a tA) : BW X (.BoolOp .Or [a] pos) tA := ⟨pw_or1 h.h⟩
theorem bw_and (ha : BT X a tA) (hb : BW X (.BoolOp .And (b :: es) pos) tB') : BW X (.BoolOp .And (a :: b :: es) pos) (tAnd tA tB') := ⟨pw_and ha.h hb.h⟩
theorem bw_or (ha : BT X a tA) (hb : BW X (.BoolOp .Or (b :: es) pos) tB') : BW X (.BoolOp .Or (a :: b :: es) pos) (tOr tA tB') := ⟨pw_or ha.h hb.h⟩
theorem bss_nil : BSs X [] tNext := ⟨pss_nil⟩
theorem bss_cons (h1 : BS X st s) (h2 : BSs X rest u) : BSs X (st :: rest) (tSeq s u) := ⟨pss_cons h1.h h2.h⟩
theorem bss_one (h : BS X st s) : BSs X [st] s := ⟨pss_one h.h⟩
theorem bs_expr (h : BE X e te) (hs : swapsWith e none pos.line X.env = pure false := by rfl) : BS X (.Expr e pos) (tDrop te) := ⟨ps_expr h.h hs⟩
theorem bs_ret (h : BE X e te) : BS X (.Return (some e) pos) (tRet te) := ⟨ps_ret h.h⟩
theorem bs_if (hc : BT X c tA) (ha : BSs X xs s) (hb : BSs X ys u) : BS X (.If c xs ys pos) (tIfS tA s u) := ⟨ps_if hc.h ha.h hb.h⟩
theorem bs_set {i : Nat} {x : Str} {pos' : Pos} (hN : X.N.Nodup) (hi : X.N[i]? = some x) (hx : Loc X.env.scope x) (he : BE X e te) (hs : swapsWith e (some (.Name x pos')) pos.line X.env = pure false := by rfl) (hf : X.fn x = true ∨ X.env.scope.names.lookup x = some .local := by first | exact .inl rfl | exact .inr rfl | assumption) :
    BS X (.Assign [.Name x pos'] e pos) (tAsg te (gName i)) := ⟨ps_set hN hi hx he.h hs hf⟩
theorem bg_name {i : Nat} {x : Str} (hN : X.N.Nodup) (hi : X.N[i]? = some x) (hx : Loc X.env.scope x) (hf : X.fn x = true ∨ X.env.scope.names.lookup x = some .local := by first | exact .inl rfl | exact .inr rfl | assumption) : BG X (.Name x pos) (gName i) := ⟨pg_name hN hi hx hf⟩
theorem bs_asg {tg : Expr} {g : TG} (he : BE X e te) (hg : BG X tg g) (hs : swapsWithSole [tg] e pos.line X.env = pure false := by rfl) (hw : swappedStores [tg] e X.env = pure none := by rfl) (h1 : (assignEach [tg] X.env).map (·.2) = [assign tg X.env] := by rfl) : BS X (.Assign [tg] e pos) (tAsg te g) := ⟨ps_asg he.h hg.h hs hw h1⟩
theorem bs_for {tg iter : Expr} {wi : TI} {g : TG} (hp : PassesOwn (model X.prog X.w) X.A X.env X.xe) (hc : X.calm = true) (hi : BI X tg iter wi) (hg : BG X tg g) (hb : BSs X xs s) (hs : ∀ x, foldedSetIterable iter X.env x = pure x := by intro _; rfl) : BS X (.For tg iter xs [] pos) (tFor wi g s) := ⟨ps_for hp hc hi.h hg.h hb.h hs⟩
end
instance k0 {A B : Prop} : RdS (if (true == true) = true then A else B) A := ⟨fun h => by simpa using h⟩
instance k1 {A B : Prop} : RdS (if (true != true) = true then A else B) B := ⟨fun h => by simpa using h⟩
instance k2 {A B : Prop} : RdS (if (true == false) = true then A else B) B := ⟨fun h => by simpa using h⟩
instance k3 {A B : Prop} : RdS (if (true != false) = true then A else B) A := ⟨fun h => by simpa using h⟩
instance k4 {A B : Prop} : RdS (if (false == true) = true then A else B) B := ⟨fun h => by simpa using h⟩
instance k5 {A B : Prop} : RdS (if (false != true) = true then A else B) A := ⟨fun h => by simpa using h⟩
instance k6 {A B : Prop} : RdS (if (false == false) = true then A else B) A := ⟨fun h => by simpa using h⟩
instance k7 {A B : Prop} : RdS (if (false != false) = true then A else B) B := ⟨fun h => by simpa using h⟩
theorem rd_pick {K : PySem.W.Frag} {H : Hp} {Q : VK} {a : Addr} {xs : List V} {i : Int} (e : SqL K H a xs) (h0 : 0 ≤ i) (h1 : i < xs.length) (h : ∀ v ∈ xs, Q v H) : rIx K (.ref a) (.int i) H Q := by
  obtain ⟨j, rfl⟩ : ∃ j : Nat, i = j := ⟨i.toNat, by omega⟩
  have hj : j < xs.length := by omega
  exact rd_ixL e (atI_nat (List.getElem?_eq_getElem hj)) (h _ (List.getElem_mem hj))
section
variable {P : Program} {w : World} {K : PySem.W.Frag} {mg : Str → Option Value} {base : Heap}
theorem Fun.okB {x qual : Str} {st : Stmt} {f : Addr} {fd : FuncData} {N ps : List Str} {k : Nat} {sp : Sp} (F : Fun K x qual st f fd) (S : FnScope N ps (defScope st)) (len : ∀ vs H Q E, sp vs H Q E → vs.length = ps.length)
    (hbody : ∀ (cdv : Value) (A : Around) (outer : List Env) (s : Shared) (H : Hp) (vs : List V) (Q : VK) (E : XK), Room k (A.deeper (envOfC qual (defScope st) s.heap.objs.size f cdv)) → sp vs H Q E →
      ∃ t, BSs (cxOf CX0 P w K mg base N qual (defScope st) f cdv A outer s H E).nox (defBody st) t ∧ t { nx := fun _ H' => Q .non H', rt := Q } (start N vs) H) : FnOk P w K mg base CX0 (k + 1) f fd ps sp :=
  F.ok S len fun cdv A outer s H vs Q E hr hs => let ⟨t, h, q⟩ := hbody cdv A outer s H vs Q E hr hs; ⟨t, h.h, q⟩
end
end L2
namespace L2
open PySem PySem.Spec PyProof.Rows
section
variable {X : Cx} {K : PySem.W.Frag} {σ : St} {H : Hp} {Q : VK} {o e : Expr} {es : List Expr} {to te : TE} {t : TA} {apos cpos pos p2 : Pos}
def insL {α : Type} (k : Nat) (y : α) (xs : List α) : List α := xs.take k ++ y :: xs.drop k
theorem bm_append (ho : BE X o to) (ha : BA X (e :: es) t) (hbase : attributeBase o "append" X.env (eval o X.env) = eval o X.env := by rfl)
    (hfew : ((backTo cpos (starEach (e :: es) X.env)).all (fun x => !x.1) && (backToKw cpos (keywordEach [] X.env)).all (fun x => x.1.isSome)
      && decide ((e :: es).length + ([] : List Keyword).length + (if ([] : List Keyword).isEmpty then 0 else 1) < 30)) = true := by rfl)
    (hline : (apos.endLine == cpos.line) = true := by rfl) (h1 : isStar e = false := by rfl) (h2 : noStar es = true := by rfl) :
    BE X (.Call (.Attribute o "append" apos) (e :: es) [] cpos) (tBM X.K "list" rAppend to t) :=
  ⟨pe_bm F.plainAttrs_list F.slot_list_append F.type_list_append mt_append ho.h ha.h hbase hfew hline (star_cons h1) (star_any h2)⟩
instance j1 {T : String} {r : V → List V → Hp → VK → Prop} : RdS (tBM K T r to t σ H Q) (to σ H fun x H1 => tyV K T x H1 ∧ t σ H1 fun xs H2 => r x xs H2 Q) := ⟨id⟩
theorem rd_bmL {p : Addr} {xs : List V} {P : Prop} (e : H p = some (.lst xs)) (h : P) : tyV K "list" (.ref p) H ∧ P := ⟨.inl ⟨rfl, _, SqL.of e⟩, h⟩
theorem rd_append {l : Addr} {xs : List V} {y : V} (e : H l = some (.lst xs)) (hz : xs.length < sizeLine) (h : Q .non (upd H l (.lst (xs ++ [y])))) : rAppend (.ref l) [y] H Q := ⟨l, xs, y, rfl, rfl, e, hz, h⟩
instance j3 {A B : Prop} {b : Bool} : RdS (if (!(b == b)) = true then A else B) B := ⟨fun h => by simpa using h⟩
instance GetS.pick {ix : List Nat} {σ σ' : St} {i : Nat} {v : V} [p : PickS ix σ σ'] [g : GetS σ' i v] : GetS (pick ix σ) i v := ⟨by rw [p.eq]; exact g.get⟩
end
instance n0 {A B : Prop}  : RdS (if decide ((.non : V) = .non) = true then A else B) A := ⟨fun h => by simpa using h⟩
instance n1 {A B : Prop}  : RdS (if (!decide ((.non : V) = .non)) = true then A else B) B := ⟨fun h => by simpa using h⟩
instance n2 {A B : Prop} {p : Addr} : RdS (if decide (((.ref p) : V) = .non) = true then A else B) B := ⟨fun h => by simpa using h⟩
instance n3 {A B : Prop} {p : Addr} : RdS (if (!decide (((.ref p) : V) = .non)) = true then A else B) A := ⟨fun h => by simpa using h⟩
instance n4 {A B : Prop} {i : Int} : RdS (if decide (((.int i) : V) = .non) = true then A else B) B := ⟨fun h => by simpa using h⟩
instance n5 {A B : Prop} {i : Int} : RdS (if (!decide (((.int i) : V) = .non)) = true then A else B) A := ⟨fun h => by simpa using h⟩
instance n6 {A B : Prop} {z : Str} : RdS (if decide (((.str z) : V) = .non) = true then A else B) B := ⟨fun h => by simpa using h⟩
instance n7 {A B : Prop} {z : Str} : RdS (if (!decide (((.str z) : V) = .non)) = true then A else B) A := ⟨fun h => by simpa using h⟩
instance n8 {A B : Prop} {b : Bool} : RdS (if decide (((.bl b) : V) = .non) = true then A else B) B := ⟨fun h => by simpa using h⟩
instance n9 {A B : Prop} {b : Bool} : RdS (if (!decide (((.bl b) : V) = .non)) = true then A else B) A := ⟨fun h => by simpa using h⟩
section
variable {X : Cx} {K : PySem.W.Frag}
theorem o_addK (h : X.K = K) : OpR X (binaryOp .Add) (rAddP K) := h ▸ o_add
theorem ix_seqK (h : X.K = K) : IxR X (rIx K) := h ▸ ix_seq
theorem c_lenK (h : X.K = K) : CallR X (.builtin "len") (rLen K) := h ▸ c_len
end
theorem Reps.at {H : Hp} {α : Type} {f : α → L2.D} : ∀ {es : List α} {vs : List V} {j : Nat} {v : V}, Reps H (es.map f) vs → vs[j]? = some v → ∃ e, es[j]? = some e ∧ Rep H (f e) v
  | [], vs, j, v, h, e => by
    rw [List.map_nil] at h
    rw [h.nilE] at e
    simp at e
  | x :: es, vs, j, v, h, e => by
    rw [List.map_cons] at h
    obtain ⟨u, r, rfl, h1, h2⟩ := h.consE
    cases j with
    | zero =>
      simp at e
      subst e
      exact ⟨x, rfl, h1⟩
    | succ j =>
      obtain ⟨y, e1, e2⟩ := Reps.at (es := es) (j := j) h2 (by simpa using e)
      exact ⟨y, by simpa using e1, e2⟩
mutual
def noL : L2.D → Bool
  | .lst _ => false
  | .dct => false
  | .tup ds => noLs ds
  | _ => true
def noLs : List L2.D → Bool
  | [] => true
  | d :: ds => noL d && noLs ds
end
def Tups (H H' : Hp) : Prop := ∀ b xs, H b = some (.tup xs) → H' b = some (.tup xs)
mutual
theorem Rep.stay {H H' : Hp} (s : Tups H H') : ∀ {d : L2.D} {v : V}, noL d = true → Rep H d v → Rep H' d v
  | .non, v, _, h => by simp only [Rep] at h ⊢; exact h
  | .bl b, v, _, h => by simp only [Rep] at h ⊢; exact h
  | .int b, v, _, h => by simp only [Rep] at h ⊢; exact h
  | .str b, v, _, h => by simp only [Rep] at h ⊢; exact h
  | .lst ds, v, n, h => by simp only [noL] at n; cases n
  | .dct, v, n, h => by simp only [noL] at n; cases n
  | .tup ds, v, n, h => by
    simp only [noL] at n
    simp only [Rep] at h ⊢
    obtain ⟨a, vs, e, h1, h2⟩ := h
    exact ⟨a, vs, e, s _ _ h1, Reps.stay s n h2⟩
theorem Reps.stay {H H' : Hp} (s : Tups H H') : ∀ {ds : List L2.D} {vs : List V}, noLs ds = true → Reps H ds vs → Reps H' ds vs
  | [], vs, _, h => by simp only [Reps] at h ⊢; exact h
  | d :: ds, vs, n, h => by
    simp only [noLs, Bool.and_eq_true] at n
    simp only [Reps] at h ⊢
    obtain ⟨v, r, e, h1, h2⟩ := h
    exact ⟨v, r, e, Rep.stay s n.1 h1, Reps.stay s n.2 h2⟩
end
theorem same_updL {H H1 : Hp} {l : Addr} {o : HO} (s : Same H H1) (h : H l = none) : Same H (upd H1 l o) := fun b u e => by
  rw [upd_ne (ne_of_none e h)]
  exact s b u e
theorem Reps.take {H : Hp} : ∀ {ds : List L2.D} {vs : List V} (n : Nat), Reps H ds vs → Reps H (ds.take n) (vs.take n)
  | ds, vs, 0, _ => by rw [List.take_zero, List.take_zero]; exact Reps.nil'
  | [], vs, n + 1, h => by rw [h.nilE]; exact Reps.nil'
  | d :: ds, vs, n + 1, h => by
    obtain ⟨v, r, rfl, h1, h2⟩ := h.consE
    exact Reps.cons' h1 (Reps.take n h2)
theorem Reps.drop {H : Hp} : ∀ {ds : List L2.D} {vs : List V} (n : Nat), Reps H ds vs → Reps H (ds.drop n) (vs.drop n)
  | ds, vs, 0, h => h
  | [], vs, n + 1, h => by rw [h.nilE]; exact Reps.nil'
  | d :: ds, vs, n + 1, h => by
    obtain ⟨v, r, rfl, h1, h2⟩ := h.consE
    exact Reps.drop n h2
theorem Reps.append {H : Hp} : ∀ {ds es : List L2.D} {vs us : List V}, Reps H ds vs → Reps H es us → Reps H (ds ++ es) (vs ++ us)
  | [], es, vs, us, h, h' => by rw [h.nilE]; exact h'
  | d :: ds, es, vs, us, h, h' => by
    obtain ⟨v, r, rfl, h1, h2⟩ := h.consE
    exact Reps.cons' h1 (Reps.append h2 h')
theorem Reps.ins {H : Hp} {ds : List L2.D} {vs : List V} {d : L2.D} {v : V} (k : Nat) (h : Reps H ds vs) (h1 : Rep H d v) : Reps H (insL k d ds) (insL k v vs) := (h.take k).append (Reps.cons' h1 (h.drop k))
theorem Reps.reverse {H : Hp} : ∀ {ds : List L2.D} {vs : List V}, Reps H ds vs → Reps H ds.reverse vs.reverse
  | [], vs, h => by rw [h.nilE]; exact Reps.nil'
  | d :: ds, vs, h => by
    obtain ⟨v, r, rfl, h1, h2⟩ := h.consE
    rw [List.reverse_cons, List.reverse_cons]
    exact (Reps.reverse h2).append (Reps.cons' h1 Reps.nil')
end L2
namespace L2
open PySem PySem.Spec PyProof.Rows
section
variable {X : Cx} {K : PySem.W.Frag} {σ : St} {H : Hp} {Q : VK} {o e : Expr} {es : List Expr} {to te : TE} {t : TA} {apos cpos pos p2 : Pos}
def CShl (i j : Int) : Prop := 0 ≤ j ∧ (Builtin.Int.intBits i : Int) + j ≤ 2 ^ 27
theorem o_shl : OpR X (binaryOp .LShift) (rI CShl fun i j => .int (i * 2 ^ j.toNat)) := opI fun _ _ _ _ _ _ _ hc q => lshift_int hc.1 hc.2 q
theorem rd_shlB {i j : Int} (hc : CShl i j) (h : Q (.int (i * 2 ^ j.toNat)) H) : rI CShl (fun i j => .int (i * 2 ^ j.toNat)) (.int i) (.int j) H Q := ⟨i, j, rfl, rfl, hc, h⟩
abbrev TJ := St → Hp → Str → (Str → Hp → Prop) → Prop
structure BJ (X : Cx) (es : List Expr) (t : TJ) : Prop where
  h : ∀ (pins : List (Addr × Obj)) (s : Shared) (σ : St) (H : Hp) (out : Str) (Q : Str → Hp → Prop), Inv X pins σ H s → t σ H out Q → wpAny (model X.prog X.w) X.A (joinParts out (evalEach es X.env)) (fun u s' => ∃ z H', Inv X pins σ H' s' ∧ RelV (.str z) u ∧ Q z H') X.xe s
end
end L2
namespace L2
open PySem PySem.Spec PyProof.Rows
abbrev At := Sum Str Int
inductive AtsAre : List Value → List At → Prop
  | nil : AtsAre [] []
  | str {us r} (x : Str) (t : Tok) : AtsAre us r → AtsAre (.str x t :: us) (.inl x :: r)
  | int {us r} (n : Int) (t : Tok) : AtsAre us r → AtsAre (.int n t :: us) (.inr n :: r)
theorem AtsAre.length {us : List Value} {as : List At} (h : AtsAre us as) : us.length = as.length := by
  induction h with
  | nil => rfl
  | str _ _ _ ih => simp only [List.length_cons, ih]
  | int _ _ _ ih => simp only [List.length_cons, ih]
section
open PySem.SeqAt
open PySem.AutoSeq1 (wpAny_loadPart')
open PySem.MeetsSeq PySem.MeetsSeq2 PySem.MeetsSeq3
end
section
variable {X : Cx} {K : PySem.W.Frag} {H : Hp} {Q : VK}
end
end L2
namespace L2
open PySem PySem.Spec PyProof.Rows
def val : List Nat → Int
  | [] => 0
  | d :: ds => d + 16 * val ds
def okF (ds : List Nat) : Prop := ∀ d ∈ ds, d < 16
theorem okF.take {ds : List Nat} (h : okF ds) (n : Nat) : okF (ds.take n) := fun d hd => h d (List.mem_of_mem_take hd)
theorem okF.drop {ds : List Nat} (h : okF ds) (n : Nat) : okF (ds.drop n) := fun d hd => h d (List.mem_of_mem_drop hd)
end L2
namespace L2
open PySem PySem.Spec PyProof.Rows
end L2
namespace L2
open PySem PySem.Spec PyProof.Rows
def isFig (c : Nat) : Bool := decide (48 ≤ c ∧ c ≤ 57)
def isSg (c : Nat) : Bool := decide (97 ≤ c ∧ c ≤ 112)
def figB (z : Str) : Bool := decide (z ≠ Str.ofString "") && z.cps.toList.all isFig
def numM (z : Str) : Nat := NumText.digitsVal z.cps.toList
def szM (z : Str) : Option Int := if z.length ≤ 6 ∧ figB z = true ∧ atI z.cps.toList 0 ≠ some 48 ∧ numM z % 8 = 0 then some (numM z : Int) else none
def pH (z : Str) : Str := (Txt.partition z (Str.ofString ":")).1
def pB (z : Str) : Str := (Txt.partition z (Str.ofString ":")).2.2
def dsOf (z : Str) : List Nat := z.cps.toList.map (· - 97)
def dueM (z : Str) : Option (Int × Int) :=
  match szM (pH z) with
  | none => none
  | some n => if ((pB z).length : Int) = n / 4 ∧ (pB z).cps.toList.all isSg = true then some (n, val (dsOf (pB z))) else none
theorem due_len {z : Str} {n : Int} (h : szM (pH z) = some n) (h2 : ¬ ((pB z).length : Int) = n / 4) : dueM z = none := by
  unfold dueM; rw [h]; exact if_neg fun q => h2 q.1
end L2
namespace L2
open PySem PySem.Spec PyProof.Rows
open PySem.SeqAt
open PySem.AutoSeq1 (wpAny_loadPart')
open PySem.MeetsSeq PySem.MeetsSeq2 PySem.MeetsSeq3
end L2
namespace L2
open PySem PySem.Spec PyProof.Rows
section
variable {prog : Program} {w : World} {A : Around} {E : Value → Shared → Prop} {s : Shared} {it : Addr} {z : Str} {t : Tok}
end
end L2
namespace L2
open PySem PySem.Spec PyProof.Rows
section
variable {X : Cx} {K : PySem.W.Frag} {σ : St} {H : Hp} {Q : VK} {e : Expr} {te : TE} {pos : Pos}
end
end L2
namespace L2
open PySem PySem.Spec PyProof.Rows
structure BP (X : Cx) (e : Expr) (t : TE) : Prop where
  h : ∀ (pins : List (Addr × Obj)) (s : Shared) (σ : St) (H : Hp) (Q : VK), Inv X pins σ H s → 0 < s.toks → t σ H Q → wpAny (model X.prog X.w) X.A (eval e X.env) (fun u s' => 0 < s'.toks ∧ EP X pins σ Q u s') X.xe s
section
variable {X : Cx} {K : PySem.W.Frag} {σ : St} {H : Hp} {Q : VK} {o e : Expr} {es : List Expr} {to te te2 te3 : TE} {t : TA} {apos cpos pos p2 : Pos}
end
end L2
namespace L2
open PySem PySem.Spec PyProof.Rows
section
variable {K : PySem.W.Frag} {σ : St} {H : Hp} {Q : VK} {ix : List Nat} {te : TE}
theorem lcWl {a : Addr} {xs : List V} (W : Nat → List V → Hp → Prop) (hz : xs.length ≤ sizeLine) (h0 : W 0 [] H) (hl : ∀ i ys H', W i ys H' → SqL K H' a xs ∧ ys.length = i)
    (hE : ∀ i v ys H', xs[i]? = some v → W i ys H' → te (some v :: pick ix σ) H' fun y H5 => W (i + 1) (ys ++ [y]) H5)
    (hQ : ∀ ys p H' H1, W xs.length ys H' → H' p = none → Same H' H1 → H1 p = some (.lst ys) → Q (.ref p) H1) : LcW (Itl K a) ix σ tYes te Q H := by
  refine ⟨fun i m ys H2 => m = xs.length - i ∧ i ≤ xs.length ∧ W i ys H2, ⟨xs.length, by simp, Nat.zero_le _, h0⟩, ?_⟩
  rintro i m ys H2 ⟨rfl, hi, w⟩
  obtain ⟨q, e⟩ := hl i ys H2 w
  by_cases hlt : i < xs.length
  · refine .inr ⟨⟨xs, _, q, List.getElem?_eq_getElem hlt⟩, by omega, fun x H3 y => ?_⟩
    obtain ⟨rfl, y⟩ := y
    show te _ _ _
    rw [show (fun y H5 => ∃ m', m' < xs.length - i ∧ m' = xs.length - (i + 1) ∧ i + 1 ≤ xs.length ∧ W (i + 1) (ys ++ [y]) H5) = fun y H5 => W (i + 1) (ys ++ [y]) H5 from ?_]
    · exact hE i x ys _ (y xs q) w
    · funext y H5
      apply propext
      exact ⟨fun ⟨m', _, _, _, h⟩ => h, fun h => ⟨xs.length - (i + 1), by omega, rfl, hlt, h⟩⟩
  · have : i = xs.length := by omega
    subst this
    exact .inl ⟨⟨xs, q, Nat.le_refl _⟩, fun D hD => hQ ys D H2 _ w hD (same_new hD) upd_same⟩
theorem lcWr {lo : Int} {n : Nat} (W : Nat → List V → Hp → Prop) (hz : n ≤ sizeLine) (h0 : W 0 [] H) (hl : ∀ i ys H', W i ys H' → ys.length = i)
    (hE : ∀ i ys H', i < n → W i ys H' → te (some (.int (lo + i)) :: pick ix σ) H' fun y H5 => W (i + 1) (ys ++ [y]) H5)
    (hQ : ∀ ys p H' H1, W n ys H' → H' p = none → Same H' H1 → H1 p = some (.lst ys) → Q (.ref p) H1) : LcW (Itr lo n) ix σ tYes te Q H := by
  refine ⟨fun i m ys H2 => m = n - i ∧ i ≤ n ∧ W i ys H2, ⟨n, by simp, Nat.zero_le _, h0⟩, ?_⟩
  rintro i m ys H2 ⟨rfl, hi, w⟩
  have e := hl i ys H2 w
  by_cases hlt : i < n
  · refine .inr ⟨hlt, by omega, fun x H3 y => ?_⟩
    obtain ⟨rfl, rfl⟩ := y
    show te _ _ _
    rw [show (fun y H5 => ∃ m', m' < n - i ∧ m' = n - (i + 1) ∧ i + 1 ≤ n ∧ W (i + 1) (ys ++ [y]) H5) = fun y H5 => W (i + 1) (ys ++ [y]) H5 from ?_]
    · exact hE i ys _ hlt w
    · funext y H5
      apply propext
      exact ⟨fun ⟨m', _, _, _, h⟩ => h, fun h => ⟨n - (i + 1), by omega, rfl, hlt, h⟩⟩
  · have : i = n := by omega
    subst this
    exact .inl ⟨by show _ ≤ _; omega, fun D hD => hQ ys D H2 _ w hD (same_new hD) upd_same⟩
end
end L2
namespace L2
open PySem PySem.Spec PyProof.Rows
section
variable {X : Cx} {K : PySem.W.Frag} {σ : St} {H : Hp} {Q : VK}
theorem rd_repL {p : Addr} {xs : List V} {k : Int} (e : H p = some (.lst xs)) (h1 : 0 ≤ k) (h2 : k ≤ 10000) (hz : xs.length * k.toNat ≤ sizeLine) (h : ∀ l H1, H l = none → Same H H1 → H1 l = some (.lst (List.replicate k.toNat xs).flatten) → Q (.ref l) H1) : rMulP (.ref p) (.int k) H Q :=
  .inr (.inr ⟨p, k, xs, rfl, rfl, e, by omega, by omega, hz, fun l hl => h l _ hl (same_new hl) upd_same⟩)
theorem sIx_nat (len : Nat) (d : Nat) {n : Nat} (h : n ≤ len) : HT.sIx len d (some (n : Int)) = n := by
  unfold HT.sIx
  simp only
  rw [if_neg (by omega)]
  omega
theorem cutV_to (xs : List V) {n : Nat} (h : n ≤ xs.length) : cutV xs none (some (n : Int)) = xs.take n := by
  unfold cutV
  rw [sIx_nat _ _ h, show HT.sIx xs.length 0 none = 0 from rfl, List.drop_zero, Nat.sub_zero]
theorem Reps.rep {H : Hp} {ds : List L2.D} {vs : List V} (r : Reps H ds vs) : ∀ k : Nat, Reps H (List.replicate k ds).flatten (List.replicate k vs).flatten
  | 0 => Reps.nil'
  | k + 1 => by
    rw [List.replicate_succ, List.flatten_cons, List.replicate_succ, List.flatten_cons]
    exact r.append (Reps.rep r k)
end
end L2
namespace L2
open PySem PySem.Spec PyProof.Rows
section
variable {X : Cx} {scope : Scope} {x : Str} {fv : List Str} {ix : List Nat}
variable {y : Str} {iy : Nat} {py px pos spos : Pos} {elt iter : Expr} {ifs : List Expr} {osc : Scope} {wi : TI} {tt : TT} {te : TE}
end
end L2
namespace L2
open PySem PySem.Spec PyProof.Rows
section
variable {X : Cx} {K : PySem.W.Frag} {σ : St} {H : Hp} {Q : VK} {e : Expr} {te : TE} {pos : Pos}
end
end L2
namespace L2
open PySem PySem.Spec PyProof.Rows
section
variable {X : Cx} {K : PySem.W.Frag} {σ : St} {H : Hp} {Q : VK} {o e i : Expr} {es : List Expr} {to te ti : TE} {t : TA} {apos cpos pos p2 : Pos}
end
end L2
namespace L2
open PySem PySem.Spec PyProof.Rows
section
variable {X : Cx} {K : PySem.W.Frag} {σ : St} {H : Hp} {Q : VK} {o i : Expr} {to ti : TE} {pos : Pos}
theorem bg_sub {t : TSet} (ho : BE X o to) (hi : BE X i ti) (hs : PSet X t) (ha : ∀ v, assign (.Subscript o i pos) X.env v = (do
      let ov ← holding [v] (eval o X.env)
      let iv ← holding [v, ov] (eval i X.env)
      standAt pos
      holding [v, ov, iv] (setItem ov iv v)
      release [v, ov, iv] []) := by intro _; rfl) : BG X (.Subscript o i pos) (gSub to ti t) := ⟨pg_sub ho.h hi.h hs ha⟩
instance y2 {t : TSet} {v : V} {F : St → Hp → Prop} : RdS (gSub to ti t v σ H F) (to σ H fun o H1 => ti σ H1 fun i H2 => t o i v H2 fun H3 => F σ H3) := ⟨id⟩
theorem rd_setL {p : Addr} {xs : List V} {j : Nat} {v : V} {F : Hp → Prop} (e : H p = some (.lst xs)) (hj : j < xs.length) (h : F (upd H p (.lst (xs.set j v)))) : rSetL (.ref p) (.int (j : Int)) v H F := ⟨p, xs, j, j, rfl, rfl, e, by unfold ixN; rw [if_pos (by omega), if_pos (by omega)]; simp, h⟩
end
end L2
namespace L2
open PySem PySem.Spec PyProof.Rows
section
variable {X : Cx} {K : PySem.W.Frag} {σ : St} {H : Hp} {Q : VK} {o e : Expr} {es : List Expr} {to te : TE} {t : TA} {apos cpos pos p2 : Pos}
end
end L2
namespace L2
open PySem PySem.Spec PyProof.Rows
section
variable {σ : St} {H : Hp} {Q : VK} {te : TE} {t : TJ} {out : Str} {F : Str → Hp → Prop}
end
end L2
namespace L2
open PySem PySem.Spec PyProof.Rows
end L2
namespace L2
open PySem PySem.Spec PyProof.Rows
theorem slice_cut {z : Str} {i j : Nat} (h1 : i ≤ j) (h2 : j ≤ z.length) : (Txt.slice z (some (i : Int)) (some (j : Int))).cps.toList = (z.cps.toList.drop i).take (j - i) := by
  have e := slice_closes (x := z) (i := (i : Int)) (j := (j : Int)) ⟨by omega, by omega, by rw [← len_list]; omega⟩
  rw [eq_of_beq e]
  show (z.cps.toList.drop (i : Int).toNat).take ((j : Int) - (i : Int)).toNat = _
  rw [show ((j : Int) - (i : Int)).toNat = j - i by omega, show (i : Int).toNat = i by omega]
end L2
namespace L2
open PySem PySem.Spec PyProof.Rows
section
variable {X : Cx} {K : PySem.W.Frag} {σ : St} {H : Hp} {Q : VK} {o e : Expr} {es : List Expr} {to te : TE} {t : TA} {apos cpos pos p2 : Pos}
end
end L2
namespace L2
open PySem PySem.Spec PyProof.Rows
end L2
namespace L2
open PySem PySem.Spec PyProof.Rows
section
variable {X : Cx} {K : PySem.W.Frag} {σ : St} {H : Hp} {Q : VK}
theorem Vals.len {xs : List V} {us : List Value} (h : Vals xs us) : us.length = xs.length := by
  induction h with
  | nil => rfl
  | cons _ _ ih => simp only [List.length_cons, ih]
end
end L2
namespace L2
open PySem PySem.Spec PyProof.Rows
section
variable {X : Cx} {K : PySem.W.Frag} {σ : St} {H : Hp} {Q : VK} {o e : Expr} {es : List Expr} {to te : TE} {t : TA} {apos cpos pos p2 : Pos}
end
end L2
namespace L2
open PySem PySem.Spec PyProof.Rows
end L2
namespace L2
open PySem PySem.Spec PyProof.Rows
section
variable {K : PySem.W.Frag} {σ : St} {H : Hp} {Q : VK} {ix : List Nat} {te : TE} {tt : TT}
end
end L2
namespace L2
open PySem PySem.Spec PyProof.Rows
section
variable {X : Cx} {K : PySem.W.Frag} {σ : St} {H : Hp} {Q : VK}
end
end L2
namespace PySem
open PySem PySem.Spec PySem.AutoSeq1
end PySem
namespace L2
open PySem PySem.Spec PyProof.Rows
section
variable {X : Cx} {K : PySem.W.Frag} {σ : St} {H : Hp} {Q : VK} {o e : Expr} {es : List Expr} {to te : TE} {t : TA} {apos cpos pos p2 : Pos}
end
end L2
namespace L2
open PySem PySem.Spec PyProof.Rows
end L2
namespace L2
open PySem PySem.Spec PyProof.Rows
section
variable {K : PySem.W.Frag} {σ : St} {H : Hp} {Q : VK} {ix : List Nat} {te : TE} {tt : TT}
theorem lcWtf {a : Addr} {xs : List V} (W : Nat → List V → Hp → Prop) (hz : xs.length ≤ sizeLine) (h0 : W 0 [] H) (hl : ∀ i ys H', W i ys H' → SqT K H' a xs ∧ ys.length ≤ i)
    (hE : ∀ i v ys H', xs[i]? = some v → W i ys H' → tt (some v :: pick ix σ) H' fun b H4 => if b = true then te (some v :: pick ix σ) H4 fun y H5 => W (i + 1) (ys ++ [y]) H5 else W (i + 1) ys H4)
    (hQ : ∀ ys p H' H1, W xs.length ys H' → H' p = none → Same H' H1 → H1 p = some (.lst ys) → Q (.ref p) H1) : LcW (Itt K a) ix σ tt te Q H := by
  refine ⟨fun i m ys H2 => m = xs.length - i ∧ i ≤ xs.length ∧ W i ys H2, ⟨xs.length, by simp, Nat.zero_le _, h0⟩, ?_⟩
  rintro i m ys H2 ⟨rfl, hi, w⟩
  obtain ⟨q, e⟩ := hl i ys H2 w
  by_cases hlt : i < xs.length
  · refine .inr ⟨⟨xs, _, q, List.getElem?_eq_getElem hlt⟩, by omega, fun x H3 y => ?_⟩
    obtain ⟨rfl, y⟩ := y
    have ex : ∀ (zs : List V) (H5 : Hp), (∃ m', m' < xs.length - i ∧ m' = xs.length - (i + 1) ∧ i + 1 ≤ xs.length ∧ W (i + 1) zs H5) = W (i + 1) zs H5 := fun zs H5 =>
      propext ⟨fun ⟨m', _, _, _, h⟩ => h, fun h => ⟨xs.length - (i + 1), by omega, rfl, hlt, h⟩⟩
    simp only [ex]
    exact hE i x ys _ (y xs q) w
  · have : i = xs.length := by omega
    subst this
    exact .inl ⟨⟨xs, q, Nat.le_refl _⟩, fun D hD => hQ ys D H2 _ w hD (same_new hD) upd_same⟩
theorem lcWt {a : Addr} {xs : List V} (W : Nat → List V → Hp → Prop) (hz : xs.length ≤ sizeLine) (h0 : W 0 [] H) (hl : ∀ i ys H', W i ys H' → SqT K H' a xs ∧ ys.length = i)
    (hE : ∀ i v ys H', xs[i]? = some v → W i ys H' → te (some v :: pick ix σ) H' fun y H5 => W (i + 1) (ys ++ [y]) H5)
    (hQ : ∀ ys p H' H1, W xs.length ys H' → H' p = none → Same H' H1 → H1 p = some (.lst ys) → Q (.ref p) H1) : LcW (Itt K a) ix σ tYes te Q H :=
  lcWtf W hz h0 (fun i ys H' w => ⟨(hl i ys H' w).1, Nat.le_of_eq (hl i ys H' w).2⟩) (fun i v ys H' hv w => by
    show (fun b H4 => if b = true then te (some v :: pick ix σ) H4 fun y H5 => W (i + 1) (ys ++ [y]) H5 else W (i + 1) ys H4) true H'
    exact hE i v ys H' hv w) hQ
end
end L2
namespace L2
open PySem PySem.Spec PyProof.Rows
section
variable {X : Cx} {K : PySem.W.Frag} {σ : St} {H : Hp} {Q : VK}
end
end L2
namespace L2
open PySem PySem.Spec PyProof.Rows
section
variable {X : Cx} {K : PySem.W.Frag} {σ : St} {H : Hp} {Q : VK} {o e : Expr} {es : List Expr} {to te : TE} {t : TA} {apos cpos pos p2 : Pos}
end
end L2
namespace L2
open PySem PySem.Spec PyProof.Rows
theorem clip_nat (k n : Nat) : max (0 : Int) (min (if (k : Int) < 0 then (k : Int) + (n : Int) else (k : Int)) (n : Int)) = ((min k n : Nat) : Int) := by rw [if_neg (by omega)]; omega
theorem idx_clip (i j n : Nat) : Builtin.Str.strSliceIndices (some (i : Int)) (some (j : Int)) 1 n = Builtin.Str.strSliceIndices (some ((min i n : Nat) : Int)) (some ((min j n : Nat) : Int)) 1 n := by
  show sliceRange (max (0 : Int) (min (if (i : Int) < 0 then (i : Int) + (n : Int) else (i : Int)) (n : Int))) (max (0 : Int) (min (if (j : Int) < 0 then (j : Int) + (n : Int) else (j : Int)) (n : Int))) 1
    = sliceRange (max (0 : Int) (min (if ((min i n : Nat) : Int) < 0 then ((min i n : Nat) : Int) + (n : Int) else ((min i n : Nat) : Int)) (n : Int))) (max (0 : Int) (min (if ((min j n : Nat) : Int) < 0 then ((min j n : Nat) : Int) + (n : Int) else ((min j n : Nat) : Int)) (n : Int))) 1
  rw [clip_nat, clip_nat, clip_nat, clip_nat, Nat.min_assoc, Nat.min_assoc, Nat.min_self]
theorem slice_all {z : Str} {i j : Nat} (h : i ≤ j) : (Txt.slice z (some (i : Int)) (some (j : Int))).cps.toList = (z.cps.toList.drop i).take (j - i) := by
  have e : Txt.slice z (some (i : Int)) (some (j : Int)) = Txt.slice z (some ((min i z.length : Nat) : Int)) (some ((min j z.length : Nat) : Int)) := by
    unfold Txt.slice
    rw [idx_clip]
  rw [e, slice_cut (by omega) (by omega), len_list]
  by_cases c : i ≤ z.cps.toList.length
  · rw [Nat.min_eq_left c]
    by_cases d : j ≤ z.cps.toList.length
    · rw [Nat.min_eq_left d]
    · rw [Nat.min_eq_right (by omega), List.take_of_length_le (by rw [List.length_drop]; omega), List.take_of_length_le (by rw [List.length_drop]; omega)]
  · rw [List.drop_eq_nil_of_le (show z.cps.toList.length ≤ i by omega), List.drop_eq_nil_of_le (show z.cps.toList.length ≤ min i z.cps.toList.length by omega), List.take_nil, List.take_nil]
theorem slice_allT (z : Str) (j : Nat) : (Txt.slice z none (some (j : Int))).cps.toList = z.cps.toList.take j := by
  have e : Txt.slice z none (some (j : Int)) = Txt.slice z (some ((0 : Nat) : Int)) (some (j : Int)) := by
    unfold Txt.slice
    rw [show Builtin.Str.strSliceIndices none (some (j : Int)) 1 z.length = Builtin.Str.strSliceIndices (some ((0 : Nat) : Int)) (some (j : Int)) 1 z.length from by
      show sliceRange 0 _ 1 = sliceRange (max (0 : Int) (min (if ((0 : Nat) : Int) < 0 then ((0 : Nat) : Int) + (z.length : Int) else ((0 : Nat) : Int)) (z.length : Int))) _ 1
      rw [clip_nat, Nat.zero_min]
      rfl]
  rw [e, slice_all (Nat.zero_le j), List.drop_zero, Nat.sub_zero]
end L2
namespace L2
open PySem PySem.Spec PyProof.Rows
section
variable {X : Cx} {K : PySem.W.Frag} {σ : St} {H : Hp} {Q : VK}
end
end L2
namespace TS
open PySem PySem.W PyProof.Rows
local macro_rules | `(term| type_of% $n:ident) => return Lean.mkIdent (Lean.mkPrivateNameCore `PySem.Builtin.List.W1All (`PySem.Builtin ++ n.getId))
local macro_rules | `(tactic| delta $n:ident) => if Lean.isPrivateName n.getId then Lean.Macro.throwUnsupported else `(tactic| delta $(Lean.mkIdent (Lean.mkPrivateNameCore `PySem.Builtin.List.W1All (`PySem.Builtin ++ n.getId))):ident)
structure Cmp (prog : Program) (w : World) (A : Around) (s : Shared) (κ : SortKind) (M : Keyed → Prop) (c : Keyed → Keyed → Bool) : Prop where
  ask : ∀ x y, M x → M y → ∀ C : Bool → Shared → Prop, C (c x y) s → wpAny (model prog w) A (keyLt' κ x.1 y.1) C (fun _ _ => False) s
  tot : ∀ x y, M x → M y → x ≠ y → c x y = false → c y x = true
  asy : ∀ x y, M x → M y → c x y = true → c y x = false
  trans : ∀ x y z, M x → M y → M z → c x y = true → c y z = true → c x z = true
section
variable {prog : Program} {w : World} {A : Around} {s : Shared} {E : Value → Shared → Prop} {κ : SortKind} {M : Keyed → Prop} {c : Keyed → Keyed → Bool}
end
end TS
namespace TS
open PySem PySem.W PyProof.Rows
local macro_rules | `(term| type_of% $n:ident) => return Lean.mkIdent (Lean.mkPrivateNameCore `PySem.Builtin.List.W1All (`PySem.Builtin ++ n.getId))
local macro_rules | `(tactic| delta $n:ident) => if Lean.isPrivateName n.getId then Lean.Macro.throwUnsupported else `(tactic| delta $(Lean.mkIdent (Lean.mkPrivateNameCore `PySem.Builtin.List.W1All (`PySem.Builtin ++ n.getId))):ident)
section
variable {prog : Program} {w : World} {A : Around} {s : Shared} {E : Value → Shared → Prop} {κ : SortKind} {M : Keyed → Prop} {c : Keyed → Keyed → Bool}
end
end TS
namespace TS
open PySem PySem.W PyProof.Rows
abbrev Srt (c : Keyed → Keyed → Bool) (l : List Keyed) : Prop := l.Pairwise fun x y => c x y = true
structure LI (M : Keyed → Prop) (c : Keyed → Keyed → Bool) (all out A B : List Keyed) : Prop where
  pm : (out ++ (A ++ B)).Perm all
  so : Srt c out
  sa : Srt c A
  sb : Srt c B
  lt : ∀ x ∈ out, ∀ y ∈ A ++ B, c x y = true
  mm : ∀ x ∈ all, M x
  nd : all.Nodup
section
variable {M : Keyed → Prop} {c : Keyed → Keyed → Bool} {all out A B A1 A2 B1 B2 : List Keyed} {x y : Keyed}
theorem LI.ne (h : LI M c all out A B) (hx : x ∈ A) (hy : y ∈ B) : x ≠ y := by
  have := (h.pm.nodup_iff.mpr h.nd)
  rw [List.nodup_append] at this
  have := this.2.1
  rw [List.nodup_append] at this
  exact this.2.2 x hx y hy
end
structure HI (M : Keyed → Prop) (c : Keyed → Keyed → Bool) (all A B out : List Keyed) : Prop where
  pm : ((A ++ B) ++ out).Perm all
  so : Srt c out
  sa : Srt c A
  sb : Srt c B
  lt : ∀ x ∈ A ++ B, ∀ y ∈ out, c x y = true
  mm : ∀ x ∈ all, M x
  nd : all.Nodup
section
variable {M : Keyed → Prop} {c : Keyed → Keyed → Bool} {all out A B A1 A2 B1 B2 : List Keyed} {x y : Keyed}
theorem HI.ne (h : HI M c all A B out) (hx : x ∈ A) (hy : y ∈ B) : x ≠ y := by
  have := (h.pm.nodup_iff.mpr h.nd)
  rw [List.nodup_append] at this
  have := this.1
  rw [List.nodup_append] at this
  exact this.2.2 x hx y hy
end
section
variable {a : Array Keyed} {i k : Nat}
end
end TS
namespace TS
open PySem PySem.W PyProof.Rows
local macro_rules | `(term| type_of% $n:ident) => return Lean.mkIdent (Lean.mkPrivateNameCore `PySem.Builtin.List.W1All (`PySem.Builtin ++ n.getId))
local macro_rules | `(tactic| delta $n:ident) => if Lean.isPrivateName n.getId then Lean.Macro.throwUnsupported else `(tactic| delta $(Lean.mkIdent (Lean.mkPrivateNameCore `PySem.Builtin.List.W1All (`PySem.Builtin ++ n.getId))):ident)
section
variable {prog : Program} {w : World} {A : Around} {s : Shared} {E : Value → Shared → Prop} {κ : SortKind} {M : Keyed → Prop} {c : Keyed → Keyed → Bool}
end
end TS
namespace TS
open PySem.W PyProof.Rows
end TS
namespace TS
local macro_rules | `(tactic| lcg_src) => `(tactic| try dsimp (zeta := false) (zetaUnused := false) only)
local macro_rules | `(tactic| lcg_sub) => `(tactic| (extract_lets +onlyGivenNames -underBinder -merge -useContext zz; subst zz; try dsimp (zeta := false) (zetaUnused := false) only))
open PySem PySem.W PyProof.Rows
local macro_rules | `(term| type_of% $n:ident) => return Lean.mkIdent (Lean.mkPrivateNameCore `PySem.Builtin.List.W1All (`PySem.Builtin ++ n.getId))
local macro_rules | `(tactic| delta $n:ident) => if Lean.isPrivateName n.getId then Lean.Macro.throwUnsupported else `(tactic| delta $(Lean.mkIdent (Lean.mkPrivateNameCore `PySem.Builtin.List.W1All (`PySem.Builtin ++ n.getId))):ident)
section
variable {prog : Program} {w : World} {A : Around} {s : Shared} {E : Value → Shared → Prop} {κ : SortKind} {M : Keyed → Prop} {c : Keyed → Keyed → Bool}
variable {a b : Array Keyed} {all : List Keyed}
end
end TS
namespace TS
local macro_rules | `(tactic| lcg_src) => `(tactic| try dsimp (zeta := false) (zetaUnused := false) only)
local macro_rules | `(tactic| lcg_sub) => `(tactic| (extract_lets +onlyGivenNames -underBinder -merge -useContext zz; subst zz; try dsimp (zeta := false) (zetaUnused := false) only))
open PySem PySem.W PyProof.Rows
local macro_rules | `(term| type_of% $n:ident) => return Lean.mkIdent (Lean.mkPrivateNameCore `PySem.Builtin.List.W1All (`PySem.Builtin ++ n.getId))
local macro_rules | `(tactic| delta $n:ident) => if Lean.isPrivateName n.getId then Lean.Macro.throwUnsupported else `(tactic| delta $(Lean.mkIdent (Lean.mkPrivateNameCore `PySem.Builtin.List.W1All (`PySem.Builtin ++ n.getId))):ident)
section
variable {prog : Program} {w : World} {A : Around} {s : Shared} {E : Value → Shared → Prop} {κ : SortKind} {M : Keyed → Prop} {c : Keyed → Keyed → Bool}
variable {a b : Array Keyed} {all : List Keyed}
end
end TS
namespace TS
local macro_rules | `(tactic| lcg_src) => `(tactic| try dsimp (zeta := false) (zetaUnused := false) only)
local macro_rules | `(tactic| lcg_sub) => `(tactic| (extract_lets +onlyGivenNames -underBinder -merge -useContext zz; subst zz; try dsimp (zeta := false) (zetaUnused := false) only))
open PySem PySem.W PyProof.Rows
local macro_rules | `(term| type_of% $n:ident) => return Lean.mkIdent (Lean.mkPrivateNameCore `PySem.Builtin.List.W1All (`PySem.Builtin ++ n.getId))
local macro_rules | `(tactic| delta $n:ident) => if Lean.isPrivateName n.getId then Lean.Macro.throwUnsupported else `(tactic| delta $(Lean.mkIdent (Lean.mkPrivateNameCore `PySem.Builtin.List.W1All (`PySem.Builtin ++ n.getId))):ident)
section
variable {prog : Program} {w : World} {A : Around} {s : Shared} {E : Value → Shared → Prop} {κ : SortKind} {M : Keyed → Prop} {c : Keyed → Keyed → Bool}
end
end TS
namespace TS
local macro_rules | `(tactic| lcg_src) => `(tactic| try dsimp (zeta := false) (zetaUnused := false) only)
local macro_rules | `(tactic| lcg_sub) => `(tactic| (extract_lets +onlyGivenNames -underBinder -merge -useContext zz; subst zz; try dsimp (zeta := false) (zetaUnused := false) only))
open PySem PySem.W PyProof.Rows
abbrev ka (arr : Array Keyed) (i : Nat) : Keyed := arr.getD i (Value.none, Value.none)
theorem ka_at {arr : Array Keyed} {i : Nat} (h : i < arr.size) : arr[i]? = some (ka arr i) := by
  unfold ka; rw [Array.getD_eq_getD_getElem?, Array.getElem?_eq_getElem h]; rfl
theorem ka_of {arr arr' : Array Keyed} {i j : Nat} (h : arr'[i]? = arr[j]?) : ka arr' i = ka arr j := by
  unfold ka; rw [Array.getD_eq_getD_getElem?, Array.getD_eq_getD_getElem?, h]
structure Gd (M : Keyed → Prop) (arr : Array Keyed) : Prop where
  mm : ∀ x ∈ arr.toList, M x
  nd : arr.toList.Nodup
theorem Gd.at_ {M : Keyed → Prop} {arr : Array Keyed} (h : Gd M arr) {i : Nat} (hi : i < arr.size) : M (ka arr i) := by
  have := ka_at hi
  rw [← Array.getElem?_toList] at this
  exact h.mm _ (List.mem_of_getElem? this)
theorem Gd.ne {M : Keyed → Prop} {arr : Array Keyed} (h : Gd M arr) {i j : Nat} (hi : i < arr.size) (hj : j < arr.size) (hij : i ≠ j) : ka arr i ≠ ka arr j := by
  have h1 := ka_at hi
  have h2 := ka_at hj
  rw [← Array.getElem?_toList] at h1 h2
  obtain ⟨l1, e1⟩ := List.getElem?_eq_some_iff.mp h1
  obtain ⟨l2, e2⟩ := List.getElem?_eq_some_iff.mp h2
  rw [← e1, ← e2]
  have q := List.pairwise_iff_getElem.mp h.nd
  by_cases z : i < j
  · exact q i j l1 l2 z
  · exact fun e => q j i l2 l1 (by omega) e.symm
structure Loc (arr arr' : Array Keyed) (lo hi : Nat) : Prop where
  pm : arr'.Perm arr
  out : ∀ i, i < lo ∨ hi ≤ i → arr'[i]? = arr[i]?
theorem Loc.refl {arr : Array Keyed} {lo hi : Nat} : Loc arr arr lo hi := ⟨Array.Perm.refl _, fun _ _ => rfl⟩
theorem Loc.trans {a b d : Array Keyed} {lo hi : Nat} (h : Loc a b lo hi) (h' : Loc b d lo hi) : Loc a d lo hi := ⟨h'.pm.trans h.pm, fun i z => (h'.out i z).trans (h.out i z)⟩
theorem Loc.mono {a b : Array Keyed} {lo hi hi' : Nat} (h : Loc a b lo hi) (z : hi ≤ hi') : Loc a b lo hi' := ⟨h.pm, fun i y => h.out i (by omega)⟩
theorem Loc.size {a b : Array Keyed} {lo hi : Nat} (h : Loc a b lo hi) : b.size = a.size := h.pm.size_eq
def Ups (c : Keyed → Keyed → Bool) (arr : Array Keyed) (lo n : Nat) : Prop := ∀ i j, i < j → j < n → c (ka arr (lo + i)) (ka arr (lo + j)) = true
def Dns (c : Keyed → Keyed → Bool) (arr : Array Keyed) (lo n : Nat) : Prop := ∀ i j, i < j → j < n → c (ka arr (lo + j)) (ka arr (lo + i)) = true
section
variable {prog : Program} {w : World} {A : Around} {s : Shared} {E : Value → Shared → Prop} {κ : SortKind} {M : Keyed → Prop} {c : Keyed → Keyed → Bool}
theorem Ups.more (L : Cmp prog w A s κ M c) {arr : Array Keyed} (G : Gd M arr) {lo n : Nat} (hn : lo + n < arr.size) (h1 : 1 ≤ n) (u : Ups c arr lo n) (e : c (ka arr (lo + n - 1)) (ka arr (lo + n)) = true) : Ups c arr lo (n + 1) := fun i j hij hj => by
  by_cases z : j < n
  · exact u i j hij z
  · obtain rfl : j = n := by omega
    by_cases y : i = j - 1
    · rw [y, show lo + (j - 1) = lo + j - 1 by omega]; exact e
    · refine L.trans _ (ka arr (lo + j - 1)) _ (G.at_ (by omega)) (G.at_ (by omega)) (G.at_ hn) ?_ e
      rw [show lo + j - 1 = lo + (j - 1) by omega]
      exact u i (j - 1) (by omega) (by omega)
theorem Dns.more (L : Cmp prog w A s κ M c) {arr : Array Keyed} (G : Gd M arr) {lo n : Nat} (hn : lo + n < arr.size) (h1 : 1 ≤ n) (u : Dns c arr lo n) (e : c (ka arr (lo + n)) (ka arr (lo + n - 1)) = true) : Dns c arr lo (n + 1) := fun i j hij hj => by
  by_cases z : j < n
  · exact u i j hij z
  · obtain rfl : j = n := by omega
    by_cases y : i = j - 1
    · rw [y, show lo + (j - 1) = lo + j - 1 by omega]; exact e
    · refine L.trans _ (ka arr (lo + j - 1)) _ (G.at_ hn) (G.at_ (by omega)) (G.at_ (by omega)) e ?_
      rw [show lo + j - 1 = lo + (j - 1) by omega]
      exact u i (j - 1) (by omega) (by omega)
end
end TS
namespace TS
local macro_rules | `(tactic| lcg_src) => `(tactic| try dsimp (zeta := false) (zetaUnused := false) only)
local macro_rules | `(tactic| lcg_sub) => `(tactic| (extract_lets +onlyGivenNames -underBinder -merge -useContext zz; subst zz; try dsimp (zeta := false) (zetaUnused := false) only))
open PySem PySem.W PyProof.Rows
section
variable {prog : Program} {w : World} {A : Around} {s : Shared} {E : Value → Shared → Prop} {κ : SortKind} {M : Keyed → Prop} {c : Keyed → Keyed → Bool}
end
end TS
namespace TS
local macro_rules | `(tactic| lcg_src) => `(tactic| try dsimp (zeta := false) (zetaUnused := false) only)
local macro_rules | `(tactic| lcg_sub) => `(tactic| (extract_lets +onlyGivenNames -underBinder -merge -useContext zz; subst zz; try dsimp (zeta := false) (zetaUnused := false) only))
open PySem PySem.W PyProof.Rows
def Runs (c : Keyed → Keyed → Bool) (arr : Array Keyed) : Nat → List (Nat × Nat × Nat) → Nat → Prop
  | s, [], e => s = e
  | s, x :: l, e => x.1 = s ∧ 0 < x.2.1 ∧ Ups c arr s x.2.1 ∧ Runs c arr (s + x.2.1) l e
section
variable {c : Keyed → Keyed → Bool} {arr arr' : Array Keyed}
theorem Runs.len : ∀ {l : List (Nat × Nat × Nat)} {s e : Nat}, Runs c arr s l e → l.length + s ≤ e
  | [], s, e, h => by rw [show s = e from h]; simp
  | x :: l, s, e, h => by
    have := h.2.2.2.len
    have := h.2.1
    rw [List.length_cons]
    omega
theorem Runs.same : ∀ {l : List (Nat × Nat × Nat)} {s e : Nat}, Runs c arr s l e → (∀ i, s ≤ i → i < e → arr'[i]? = arr[i]?) → Runs c arr' s l e
  | [], s, e, h, _ => h
  | x :: l, s, e, h, k => by
    have := h.2.2.2.len
    refine ⟨h.1, h.2.1, fun i j hij hj => ?_, h.2.2.2.same fun i a b => k i (by omega) b⟩
    rw [ka_of (k (s + i) (by omega) (by omega)), ka_of (k (s + j) (by omega) (by omega))]
    exact h.2.2.1 i j hij hj
theorem Runs.append : ∀ {l l' : List (Nat × Nat × Nat)} {s e : Nat}, Runs c arr s (l ++ l') e ↔ ∃ m, Runs c arr s l m ∧ Runs c arr m l' e
  | [], l', s, e => ⟨fun h => ⟨s, rfl, h⟩, fun ⟨m, h1, h2⟩ => by rw [show s = m from h1]; exact h2⟩
  | x :: l, l', s, e => ⟨fun h => by
      obtain ⟨m, h1, h2⟩ := Runs.append.mp h.2.2.2
      exact ⟨m, ⟨h.1, h.2.1, h.2.2.1, h1⟩, h2⟩, fun ⟨m, h1, h2⟩ => ⟨h1.1, h1.2.1, h1.2.2.1, Runs.append.mpr ⟨m, h1.2.2.2, h2⟩⟩⟩
end
section
variable {prog : Program} {w : World} {A : Around} {s : Shared} {E : Value → Shared → Prop} {κ : SortKind} {M : Keyed → Prop} {c : Keyed → Keyed → Bool}
end
end TS
namespace TS
local macro_rules | `(tactic| lcg_src) => `(tactic| try dsimp (zeta := false) (zetaUnused := false) only)
local macro_rules | `(tactic| lcg_sub) => `(tactic| (extract_lets +onlyGivenNames -underBinder -merge -useContext zz; subst zz; try dsimp (zeta := false) (zetaUnused := false) only))
open PySem PySem.W PyProof.Rows
section
variable {prog : Program} {w : World} {A : Around} {s : Shared} {E : Value → Shared → Prop} {κ : SortKind} {M : Keyed → Prop} {c : Keyed → Keyed → Bool}
end
end TS
namespace L2
open PySem PySem.Spec PySem.W PyProof.Rows
abbrev RK := Str × Int
def KeyT (H : Hp) (v : V) (k : RK) : Prop := ∃ a, v = .ref a ∧ H a = some (.tup [.str k.1, .int k.2])
def KeyTs (H : Hp) : List V → List RK → Prop
  | [], [] => True
  | v :: vs, k :: ks => KeyT H v k ∧ KeyTs H vs ks
  | _, _ => False
theorem KeyT.same {H H' : Hp} {v : V} {k : RK} (h : KeyT H v k) (s : Same H H') : KeyT H' v k := by
  obtain ⟨a, e, h⟩ := h
  exact ⟨a, e, s a _ h⟩
theorem KeyTs.same {H H' : Hp} (s : Same H H') : ∀ {vs : List V} {ks : List RK}, KeyTs H vs ks → KeyTs H' vs ks
  | [], [], _ => trivial
  | _ :: _, _ :: _, h => ⟨h.1.same s, h.2.same s⟩
  | [], _ :: _, h => h.elim
  | _ :: _, [], h => h.elim
theorem KeyTs.snoc {H : Hp} : ∀ {vs : List V} {ks : List RK} {v : V} {k : RK}, KeyTs H vs ks → KeyT H v k → KeyTs H (vs ++ [v]) (ks ++ [k])
  | [], [], _, _, _, h => ⟨h, trivial⟩
  | _ :: _, _ :: _, _, _, h, h' => ⟨h.1, h.2.snoc h'⟩
  | [], _ :: _, _, _, h, _ => h.elim
  | _ :: _, [], _, _, h, _ => h.elim
theorem KeyTs.len {H : Hp} : ∀ {vs : List V} {ks : List RK}, KeyTs H vs ks → vs.length = ks.length
  | [], [], _ => rfl
  | _ :: _, _ :: _, h => by rw [List.length_cons, List.length_cons, h.2.len]
  | [], _ :: _, h => h.elim
  | _ :: _, [], h => h.elim
theorem KeyTs.at_ {H : Hp} : ∀ {vs : List V} {ks : List RK} {us : List Value} {i : Nat}, KeyTs H vs ks → Vals vs us → (hi : i < ks.length) → ∃ v, RelV v (us.getD i Value.none) ∧ KeyT H v (ks.getD i (⟨#[]⟩, 0))
  | v :: vs, k :: ks, us, 0, h, r, _ => by
    cases r with
    | cons r1 r2 => exact ⟨v, r1, h.1⟩
  | v :: vs, k :: ks, us, i + 1, h, r, hi => by
    cases r with
    | cons r1 r2 =>
      obtain ⟨v', a, b⟩ := KeyTs.at_ (i := i) h.2 r2 (by rw [List.length_cons] at hi; omega)
      exact ⟨v', by rw [List.getD_cons_succ]; exact a, by rw [List.getD_cons_succ]; exact b⟩
  | [], _ :: _, _, _, h, _, _ => h.elim
  | _ :: _, [], _, _, h, _, _ => h.elim
  | [], [], _, _, _, _, hi => absurd hi (Nat.not_lt_zero _)
section
variable {X : Cx} {pins : List (Addr × Obj)} {σ : St} {H : Hp} {s : Shared} {A : Around} {E : Value → Shared → Prop}
end
end L2
namespace L2
open PySem PySem.Spec PySem.W PyProof.Rows
section
variable {X : Cx} {pins : List (Addr × Obj)} {σ : St} {H : Hp} {s : Shared} {A : Around} {E : Value → Shared → Prop}
theorem FpOk.stack {b : Addr} (I : Inv X pins σ H s) (f : FpOk X pins H b) : b ∉ frs X.stack := fun z => by
  rcases List.mem_cons.mp (I.stkSub b z) with z | z
  · exact f.2.1 z
  · exact f.2.2.1 z
theorem FpOk.at_ {H' : Hp} {b : Addr} (f : FpOk X pins H b) (n : H' b = none) : FpOk X pins H' b := ⟨n, f.2⟩
structure SK (X : Cx) (pins : List (Addr × Obj)) (σ : St) (H : Hp) (D kS : Addr) (e1 : Nat) (ks : List Value) (rk : List RK) (Hi : Hp) (s : Shared) : Prop where
  I : Inv X pins σ Hi s
  sm : Same H Hi
  fk : FpOk X pins Hi kS
  fD : FpOk X pins Hi D
  ok : ∃ e, s.heap.get? kS = some (seqObj "list" ks.toArray e)
  oD : s.heap.get? D = some (seqObj "list" #[] e1)
  ne : D ≠ kS
  kt : ∃ kvs, Vals kvs ks ∧ KeyTs Hi kvs rk
variable {kf : V → RK} {fv : Value} {D kS : Addr} {e1 : Nat}
end
end L2
namespace L2
open PySem PySem.Spec PySem.W PyProof.Rows TS
section
variable {X : Cx} {pins : List (Addr × Obj)} {σ : St} {H : Hp} {s : Shared} {A : Around} {E : Value → Shared → Prop}
variable {kf : V → RK} {fv : Value} {D kS : Addr} {e1 : Nat}
theorem perm_lift {α β : Type} {f : α → β} {l m : List β} (h : l.Perm m) : ∀ L : List α, m = L.map f → ∃ L' : List α, L'.Perm L ∧ l = L'.map f := by
  induction h with
  | nil => exact fun L e => ⟨[], by cases L with | nil => exact .nil | cons _ _ => simp at e, rfl⟩
  | cons x p ih =>
    intro L e
    cases L with
    | nil => simp at e
    | cons a L =>
      rw [List.map_cons, List.cons.injEq] at e
      obtain ⟨L', h1, h2⟩ := ih L e.2
      exact ⟨a :: L', h1.cons a, by rw [List.map_cons, ← h2, e.1]⟩
  | swap x y l =>
    intro L e
    match L, e with
    | a :: b :: L, e =>
      simp only [List.map_cons, List.cons.injEq] at e
      exact ⟨b :: a :: L, List.Perm.swap a b L, by simp only [List.map_cons, List.cons.injEq]; exact ⟨e.2.1, e.1, e.2.2⟩⟩
  | trans p q ih1 ih2 =>
    intro L e
    obtain ⟨L1, h1, h2⟩ := ih2 L e
    obtain ⟨L2, h3, h4⟩ := ih1 L1 h2
    exact ⟨L2, h3.trans h1, h4⟩
end
end L2
namespace L2
open PySem PySem.Spec PySem.W PyProof.Rows TS
section
variable {X : Cx} {pins : List (Addr × Obj)} {σ : St} {H : Hp} {s : Shared} {A : Around} {E : Value → Shared → Prop}
variable {kf : V → RK} {fv : Value} {D kS : Addr} {e1 : Nat}
end
section
variable {X : Cx} {a : Expr} {x : Str} {p pos : Pos} {kpos : Pos} {ke : Expr} {t : TA} {tk : TE} {kf : V → RK}
end
end L2
namespace L2
open PySem PySem.Spec PySem.W PyProof.Rows
def SameN (H H' : Hp) : Prop := ∀ b o, H b = some o → (∀ ps, o ≠ .tbl ps) → H' b = some o
theorem SameN.of {H H' : Hp} (s : Same H H') : SameN H H' := fun b o e _ => s b o e
theorem SameN.refl {H : Hp} : SameN H H := fun _ _ e _ => e
theorem SameN.trans {H H1 H2 : Hp} (a : SameN H H1) (b : SameN H1 H2) : SameN H H2 := fun c o e n => b c o (a c o e n) n
def CodeO (qual : Str) (c' : Addr) (h : Heap) : Prop := h.CodeRec (.ref c') qual
section
variable {X : Cx} {params : Arguments} {body : Expr} {scope : Scope} {pos : Pos} {c P : Addr}
end
section
variable {P : Program} {w : World} {K : PySem.W.Frag} {mg : Str → Option Value} {base : Heap}
end
end L2
namespace L2
open PySem PySem.Spec PySem.W PyProof.Rows
section
variable {P : Program} {w : World} {K : PySem.W.Frag} {mg : Str → Option Value} {base : Heap}
end
section
variable {X : Cx} {kf : V → RK}
end
def TabsIn (ts : List Addr) (H : Hp) : Prop := ∀ p ∈ ts, H p = some (.tbl #[])
theorem law_callT {P : Program} {w : World} {K : PySem.W.Frag} {mg mb : Str → Option Value} {CX : CXT} {k : Nat} {fa a : Addr} {fd : FuncData} {x : Str} {sp : Sp} {s₁ : Shared} {vs : List Value} {ns : List Int} {ts : List Addr}
    (KX : K.In s₁.heap) (hns : s₁.heap.Ns mainGlobals mg) (hb : s₁.heap.Ns builtinsNs mb) (hbb : ∀ x : Str, x ≠ "__name__" → mb x = bootBuiltins x) (hlim : s₁.heap.NoLimit) (hg : s₁.gens = #[])
    (ha : s₁.heap.get? a = some { cls := .type "list", data := .seq vs.toArray }) (hi : IntsAre vs ns) (hl : ns.length ≤ sizeLine) (hr : Room k callerA)
    (hts : ∀ p ∈ ts, s₁.heap.get? p = some (tabObj #[])) (hnk : ∀ p ∈ ts, K.lookup p = none) (hct : ∀ p ∈ ts, isCodeTable s₁.heap p) (hbm : ∀ p ∈ ts, s₁.heap.BuiltinsAt mg p)
    (F : ∀ base : Heap, K.In base → base.Ns mainGlobals mg → (∀ p ∈ ts, base.BuiltinsAt mg p) → FnOk P w K mg base CX k fa fd [x] sp) (hbind : ∀ (s : Shared) (u : Value), BindsTo s fd ⟨[u], []⟩ [(x, u)])
    (hsp : ∀ H : Hp, TabsIn ts H → SqL K H a (ns.map V.int) → sp [.ref a] H (fun v _ => v = .bl true) fun _ _ _ => False)
    (hCX : ∀ H e s', CX [] H s₁ (fun _ _ _ => False) e s' → False) :
    codeAny (model P w) callerA (.call (.ref fa) ⟨[.ref a], []⟩) (fun r s' => r = .ok (.ret (.bool true)) ∧ OldK s₁.heap s'.heap ∧ s'.os = s₁.os ∧ AllBare s'.gens) s₁ := by
  have rv := vals_ints hi
  have lenV := hi.length
  have ant : a ∉ ts := fun z => by have := hts a z; rw [ha] at this; cases this
  have core : ∀ H : Hp, TabsIn ts H → (∀ b, b ∉ ts → H b = none ∨ (b = a ∧ ∃ o xs, H b = some (.frz o (.lst xs)))) → SqL K H a (ns.map V.int) → HOk P w H s₁.heap → (H a ≠ none → K.lookup a = none) →
      codeAny (model P w) callerA (.call (.ref fa) ⟨[.ref a], []⟩) (fun r s' => r = .ok (.ret (.bool true)) ∧ OldK s₁.heap s'.heap ∧ s'.os = s₁.os ∧ AllBare s'.gens) s₁ := by
    intro H hT hO hS hok hK
    have base_of : ∀ {b : Addr} {o : Obj}, s₁.heap.get? b = some o → H b = none → (hidT s₁.heap H).get? b = some o := fun e n => hidT_get e n
    have no : ∀ {b : Addr} {o : Obj}, s₁.heap.get? b = some o → b ∉ ts → b ≠ a → H b = none := fun {b o} e n1 n2 => by
      rcases hO b n1 with z | ⟨z, _⟩
      · exact z
      · exact absurd z n2
    have nsK : ∀ {b : Addr} {m : Str → Option Value}, s₁.heap.Ns b m → (hidT s₁.heap H).Ns b m := fun {b m} ⟨o, es, ep, e, d, r⟩ => ⟨o, es, ep, base_of e (no e (fun z => by rw [hts b z] at e; cases e; cases d) (fun z => by rw [z, ha] at e; cases e; cases d)), d, r⟩
    have hKb : K.In (hidT s₁.heap H) := fun b o e => base_of (KX b o e) (by
      by_cases z : b ∈ ts
      · rw [hnk b z] at e; cases e
      · rcases hO b z with q | ⟨q, o', xs, q'⟩
        · exact q
        · rw [q] at e q'
          rw [hK (by rw [q']; simp)] at e; cases e)
    have hBb : ∀ p ∈ ts, (hidT s₁.heap H).BuiltinsAt mg p := fun p hp => by
      obtain ⟨bm, o, e1, e2, e3, e4, e5, e6, e7, e8⟩ := hbm p hp
      refine ⟨bm, o, e1, e2, e3, e4, base_of e5 (no e5 (fun z => ?_) fun z => ?_), e6, e7, e8⟩
      · rw [hts bm z] at e5; cases e5; cases e6
      · rw [z, ha] at e5
        cases e5
        have e6' : Value.type "list" = Value.type "module" := e6
        injection e6' with h
        exact absurd h (by decide)
    have hM : Mod K mg (hidT s₁.heap H) := ⟨hKb, nsK hns, ⟨mb, nsK hb, hbb⟩, let ⟨mc, h1, h2⟩ := hlim; ⟨mc, nsK h1, h2⟩⟩
    have e0 : Env0 P w K mg (hidT s₁.heap H) callerA [] s₁ H := ⟨rfl, hM, fun b o e => of_hidT e, Nat.le_of_eq (hidT_size _ _), trivial, fun b hb => absurd (show b ∈ ([] : List Addr) from hb) (by simp), hok, .of_eq hg⟩
    refine codeAny_mono ((F _ hKb (nsK hns) hBb).run callerA [] s₁ H ⟨[.ref a], []⟩ [.ref a] [.ref a] _ _ hr e0 (hbind s₁ (.ref a)) (.cons rfl .nil) (hsp H hT hS)) fun r s' h => ?_
    cases r with
    | error e => exact (hCX H e s' h).elim
    | ok fl =>
      cases fl with
      | next => exact False.elim h
      | brk => exact False.elim h
      | cont => exact False.elim h
      | ret u =>
        obtain ⟨v, H', os, bare, un, hok', r', q⟩ := h
        have q' : v = .bl true := q
        subst q'
        obtain rfl : u = Value.bool true := r'
        refine ⟨rfl, ⟨fun b o e => ?_, fun b o e => un.there b o e (by simp)⟩, os, bare⟩
        by_cases z : b ∈ ts
        · obtain ⟨more, e2⟩ := un.tbls b _ (hT b z)
          have e3 : s'.heap.get? b = some (tabObj (#[] ++ more)) := hok' b _ e2
          rw [hts b z] at e
          cases e
          exact .inr (.inl ⟨hct b z, rfl, #[], more, rfl, e3⟩)
        · refine .inl ?_
          rcases hO b z with q | ⟨_, ob, xs, q⟩
          · exact un.keep b o e q (by intro z; exact absurd (show b ∈ ([] : List Addr) from z) (by simp)) (by simp)
          · have z2 := un.frzs b ob _ q
            obtain ⟨e1, _⟩ := hok b _ q
            obtain ⟨e2, _⟩ := hok' b _ z2
            rw [e] at e1; cases e1
            exact e2
  cases hk : K.lookup a with
  | some o =>
    have e := KX a o hk
    rw [ha] at e
    cases e
    refine core (fun b => if b ∈ ts then some (.tbl #[]) else none) (fun p hp => if_pos hp) (fun b hb => .inl (if_neg hb)) (.inr ⟨_, vs.toArray, _, hk, rfl, rfl, rfl, by rw [List.size_toArray, lenV]; exact hl, by simpa using rv⟩) (fun b u z => ?_) fun z => absurd (if_neg ant) z
    by_cases hb : b ∈ ts
    · have z' := (if_pos hb).symm.trans z
      cases z'
      exact hts b hb
    · have z' := (if_neg hb).symm.trans z
      cases z'
  | none =>
    refine core (fun b => if b ∈ ts then some (.tbl #[]) else if b = a then some (.frz { cls := .type "list", data := .seq vs.toArray } (.lst (ns.map V.int))) else none) (fun p hp => if_pos hp) (fun b hb => ?_) (.inl (.inr ⟨{ cls := .type "list", data := .seq vs.toArray }, (if_neg ant).trans (if_pos rfl)⟩)) (fun b u z => ?_) fun _ => hk
    · by_cases hba : b = a
      · exact .inr ⟨hba, _, _, (if_neg hb).trans (if_pos hba)⟩
      · exact .inl ((if_neg hb).trans (if_neg hba))
    · by_cases hb : b ∈ ts
      · have z' := (if_pos hb).symm.trans z
        cases z'
        exact hts b hb
      · by_cases hba : b = a
        · have z' := ((if_neg hb).trans (if_pos hba)).symm.trans z
          cases z'
          subst hba
          exact ⟨ha, by rw [List.length_map]; exact hl, vs, _, rv, ha⟩
        · have z' := ((if_neg hb).trans (if_neg hba)).symm.trans z
          cases z'
theorem walk_ofT {l : PySem.W.OpenLaw} {n k : Nat} {q : Program} {loose : List Str} {XP : (Str → Option Value) → Heap → Prop} {YP : World → Heap → Prop} {d : DefRec} {K : Params → PySem.W.Frag} {CX : World → CXT} {sp : World → Sp} {x : Str} {ts : List Addr}
    (hn : l.most = some n) (hn2 : n ≤ sizeLine) (hdf : d.params.defaults = []) (hr : Room k callerA)
    (hY : ∀ (w : World) (h : Heap), YP w h → (K w.params).In h ∧ ∀ p ∈ ts, h.get? p = some (tabObj #[]))
    (F : ∀ (w : World) (mg : Str → Option Value) (fa : Addr) (h : Heap), (K w.params).In h → h.Ns mainGlobals mg → mg d.name = some (.ref fa) →
      (∀ p ∈ ts, (K w.params).lookup p = none ∧ ∃ c, codeHdIn (K w.params) c p = true) ∧
      ∃ fd : FuncData, (∀ (s : Shared) (u : Value), BindsTo s fd ⟨[u], []⟩ [(x, u)]) ∧
        ∀ base : Heap, (K w.params).In base → base.Ns mainGlobals mg → (∀ p ∈ ts, base.BuiltinsAt mg p) → FnOk l.prog w (K w.params) mg base (CX w) k fa fd [x] (sp w))
    (hsp : ∀ (w : World) (H : Hp) (a : Addr) (ns : List Int), ns.length ≤ n → TabsIn ts H → SqL (K w.params) H a (ns.map V.int) → sp w [.ref a] H (fun v _ => v = .bl true) fun _ _ _ => False)
    (hCX : ∀ (w : World) (H : Hp) (s : Shared) (e : Value) (s' : Shared), CX w [] H s (fun _ _ _ => False) e s' → False) :
    PySem.W.WalkO q loose XP YP l.row.toRowW d [] (fun f vs => PySem.call f vs) := by
  refine Att.attach_call hn hdf fun w s₀ s₁ mg mb fa o pm cd doc a vs ns G Y ho hd hcd hmg hobj hints hlen hg => ?_
  obtain ⟨KX, hts⟩ := hY w _ Y
  obtain ⟨hp, fd, hb, hF⟩ := F w mg fa _ KX G.T.g hmg
  refine law_callT KX G.T.g G.T.b G.T.builtins G.T.nolimit hg hobj hints (Nat.le_trans hlen hn2) hr hts (fun p h => (hp p h).1) (fun p h => ?_) (fun p h => ?_) hF hb (fun H hO hS => hsp w H a ns hlen hO hS) fun H e s' => hCX w H s₁ e s'
  · obtain ⟨c, hc⟩ := (hp p h).2
    obtain ⟨o, vs, _, _, _, _, _, _, _, e1, e2, e3, e4, _⟩ := codeHd_of_K KX hc
    exact ⟨c, o, vs, e1, e2, e3, e4⟩
  · obtain ⟨bm, ob, e1, e2, e3, e4, e5, e6⟩ := G.T.bmain
    refine ⟨bm, ob, e1, e2, fun z => ?_, fun z => ?_, e3, e4, e5, e6⟩
    · obtain ⟨o, es, ep, g1, g2, _⟩ := G.T.g
      rw [z, g1] at e3
      cases e3
      rw [e6] at g2
      cases g2
    · rw [z, hts p h] at e3
      cases e3
      cases e4
end L2
namespace L2
open PySem PySem.Spec PyProof.Rows
section
variable {X : Cx} {K : PySem.W.Frag} {σ : St} {H : Hp} {Q : VK} {e e' : Expr} {te te' : TE} {pos : Pos}
end
end L2
namespace L2
open PySem PySem.Spec PyProof.Rows
local macro_rules | `(term| type_of% $n:ident) => return Lean.mkIdent (Lean.mkPrivateNameCore `PySem.Builtin.Dict_items.Iterators (`PySem.Builtin ++ n.getId))
local macro_rules | `(tactic| delta $n:ident) => if Lean.isPrivateName n.getId then Lean.Macro.throwUnsupported else `(tactic| delta $(Lean.mkIdent (Lean.mkPrivateNameCore `PySem.Builtin.Dict_items.Iterators (`PySem.Builtin ++ n.getId))):ident)
section
variable {prog : Program} {w : World} {A : Around} {E : Value → Shared → Prop} {s : Shared} {it d : Addr} {i ep : Nat} {o : Obj} {es : Array DictEntry}
end
end L2
namespace L2
open PySem PySem.Spec PyProof.Rows
section
variable {X : Cx} {K : PySem.W.Frag} {σ : St} {H : Hp} {Q : VK} {e : Expr} {te : TE} {pos : Pos} {pins : List (Addr × Obj)} {s : Shared}
end
end L2
namespace L2
open PySem PySem.Spec PyProof.Rows
structure LcScope2 (scope : Scope) (x x2 : Str) (fv : List Str) (osc : Scope) : Prop where
  kind : scope.kind = .function
  nocell : ∀ y ∈ scope.names, y.2 ≠ .cell
  names : ∀ y ∈ scope.names, y.2 = .local → scope.names.lookup y.1 = some .local
  tgt : scope.names.lookup x = some .local
  tgt2 : scope.names.lookup x2 = some .local
  free : ∀ y ∈ scope.names, y.2 = .free → osc.names.lookup y.1 = some .cell ∨ osc.names.lookup y.1 = some .free
  fvs : ∀ y ∈ fv, scope.names.lookup y = some .free
  nd : (x :: x2 :: fv).Nodup
section
variable {X : Cx} {scope : Scope} {x x2 : Str} {fv : List Str} {ix : List Nat}
theorem LcScope2.cells (S : LcScope2 scope x x2 fv X.env.scope) (ok : X.Ok) : ∀ y ∈ scope.names, y.2 = .free → ∃ c, X.env.cells.lookup y.1 = some c := fun y hy hf => by
  rcases S.free y hy hf with e | e
  · exact ok.has y.1 (.inl e)
  · exact ok.has y.1 (.inr e)
end
end L2
namespace L2
open PySem PySem.Spec PySem.W PyProof.Rows
section
variable {Md : Model} {A : Around} {E : Value → Shared → Prop} {s : Shared} {name qual : Str} {params : Arguments} {body : Expr} {scope : Scope} {env : Env} {c P c' : Addr} {ps : Array Value} {pos : Pos} {firstLine : Nat} {mg : Str → Option Value} {Q : Value → Shared → Prop}
end
def TabOk (P : Addr) (pos : Pos) (qual : Str) (H : Hp) : Prop := ∃ ps, H P = some (.tbl ps) ∧ TriplesOk ps.toList ∧ (codeAmong pos ps.toList = none ∨ ∃ c', codeAmong pos ps.toList = some (.ref c') ∧ H c' = some (.ext (CodeO qual c')))
theorem TabOk.start {P : Addr} {pos : Pos} {qual : Str} {H : Hp} (h : H P = some (.tbl #[])) : TabOk P pos qual H := ⟨#[], h, trivial, .inl rfl⟩
theorem TabOk.same {P : Addr} {pos : Pos} {qual : Str} {H H' : Hp} (h : TabOk P pos qual H) (s : Same H H') : TabOk P pos qual H' := by
  obtain ⟨ps, h1, h2, h3⟩ := h
  exact ⟨ps, s _ _ h1, h2, h3.imp id fun ⟨c', a, b⟩ => ⟨c', a, s _ _ b⟩⟩
section
variable {X : Cx} {params : Arguments} {body : Expr} {scope : Scope} {pos : Pos} {c P : Addr}
end
end L2
namespace L2
open PySem PySem.Spec PyProof.Rows
section
variable {X : Cx} {K : PySem.W.Frag} {σ : St} {H : Hp} {Q : VK} {o i value : Expr} {td ty tv : TE} {pos pos' : Pos}
end
end L2
namespace L2
open PySem PySem.Spec PyProof.Rows
section
variable {X : Cx} {K : PySem.W.Frag} {σ : St} {H : Hp} {Q : VK} {e : Expr} {te : TE} {pos : Pos} {pins : List (Addr × Obj)} {s : Shared}
end
end L2
namespace L2
open PySem PySem.Spec PyProof.Rows
section
variable {X : Cx} {K : PySem.W.Frag} {σ : St} {H : Hp} {Q : VK} {pins : List (Addr × Obj)}
end
end L2
namespace SW
open PySem PySem.SetTable
abbrev Ris (xs : Array Nat) : Prop := xs.toList.Pairwise (· < ·)
theorem ris_at {xs : Array Nat} (h : Ris xs) {i k : Nat} (hik : i < k) (hk : k < xs.size) : xs[i]'(by omega) < xs[k] := by
  have := List.pairwise_iff_getElem.mp h i k (by rw [Array.length_toList]; omega) (by rw [Array.length_toList]; omega) hik
  simpa using this
theorem below_go {xs : Array Nat} {j : Nat} (hr : Ris xs) : ∀ (f lo hi : Nat), lo ≤ hi → hi ≤ xs.size → hi - lo ≤ f → (∀ i (h : i < xs.size), i < lo → xs[i] < j) → (∀ i (h : i < xs.size), hi ≤ i → j ≤ xs[i]) →
    below.go xs j f lo hi ≤ xs.size ∧ (∀ i (h : i < xs.size), i < below.go xs j f lo hi → xs[i] < j) ∧ ∀ i (h : i < xs.size), below.go xs j f lo hi ≤ i → j ≤ xs[i] := by
  intro f
  induction f with
  | zero =>
    intro lo hi h1 h2 h3 h4 h5
    unfold below.go
    have : lo = hi := by omega
    subst this
    exact ⟨h2, h4, h5⟩
  | succ f ih =>
    intro lo hi h1 h2 h3 h4 h5
    unfold below.go
    by_cases hl : lo < hi
    · rw [if_pos hl]
      dsimp only
      have hm : (lo + hi) / 2 < xs.size := by omega
      have e : xs.getD ((lo + hi) / 2) j = xs[(lo + hi) / 2] := by simp [Array.getD, hm]
      rw [e]
      by_cases hx : xs[(lo + hi) / 2] < j
      · rw [if_pos hx]
        refine ih _ _ (by omega) h2 (by omega) (fun i h hi' => ?_) h5
        by_cases hi2 : i = (lo + hi) / 2
        · subst hi2; exact hx
        · exact Nat.lt_trans (ris_at hr (show i < (lo + hi) / 2 by omega) hm) hx
      · rw [if_neg hx]
        refine ih _ _ (by omega) (by omega) (by omega) h4 (fun i h hi' => ?_)
        by_cases hi2 : i = (lo + hi) / 2
        · subst hi2; omega
        · have := ris_at hr (show (lo + hi) / 2 < i by omega) h
          omega
    · rw [if_neg hl]
      have : lo = hi := by omega
      subst this
      exact ⟨h2, h4, h5⟩
theorem below_spec {xs : Array Nat} {j : Nat} (hr : Ris xs) : below xs j ≤ xs.size ∧ (∀ i (h : i < xs.size), i < below xs j → xs[i] < j) ∧ ∀ i (h : i < xs.size), below xs j ≤ i → j ≤ xs[i] := by
  unfold below
  exact below_go hr _ _ _ (Nat.zero_le _) (Nat.le_refl _) (by omega) (fun i h z => by omega) (fun i h z => by omega)
theorem insertAt_list {α : Type} (xs : Array α) (p : Nat) (x : α) : (insertAt xs p x).toList = xs.toList.take p ++ x :: xs.toList.drop p := by
  unfold insertAt
  simp [List.take_of_length_le]
theorem insertAt_perm {α : Type} (xs : Array α) (p : Nat) (x : α) : (insertAt xs p x).toList.Perm (xs.toList ++ [x]) := by
  rw [insertAt_list]
  refine (List.perm_middle).trans ?_
  rw [List.take_append_drop]
  exact (List.perm_append_singleton x xs.toList).symm
theorem ris_insert {xs : Array Nat} {j : Nat} (hr : Ris xs) (hn : xs[below xs j]? ≠ some j) : Ris (insertAt xs (below xs j) j) := by
  obtain ⟨h1, h2, h3⟩ := below_spec (j := j) hr
  unfold Ris
  rw [insertAt_list, List.pairwise_append]
  refine ⟨hr.sublist (List.take_sublist _ _), ?_, fun a ha b hb => ?_⟩
  · rw [List.pairwise_cons]
    refine ⟨fun b hb => ?_, hr.sublist (List.drop_sublist _ _)⟩
    obtain ⟨i, hi, e⟩ := List.getElem_of_mem hb
    rw [List.getElem_drop] at e
    rw [List.length_drop, Array.length_toList] at hi
    have h4 := h3 (below xs j + i) (by omega) (by omega)
    rw [Array.getElem_toList] at e
    rw [← e]
    by_cases z : j = xs[below xs j + i]
    · cases i with
      | zero => exact absurd (by rw [Array.getElem?_eq_getElem (by omega)]; exact congrArg some z.symm) hn
      | succ i =>
        have h5 := h3 (below xs j) (by omega) (Nat.le_refl _)
        have h6 := ris_at hr (show below xs j < below xs j + (i + 1) by omega) (by omega)
        omega
    · omega
  · obtain ⟨i, hi, e⟩ := List.getElem_of_mem ha
    rw [List.getElem_take] at e
    rw [List.length_take, Array.length_toList] at hi
    rw [Array.getElem_toList] at e
    have ha' : a < j := by rw [← e]; exact h2 i (by omega) (by omega)
    rcases List.mem_cons.mp hb with rfl | hb
    · exact ha'
    · obtain ⟨k, hk, e'⟩ := List.getElem_of_mem hb
      rw [List.getElem_drop] at e'
      rw [List.length_drop, Array.length_toList] at hk
      rw [Array.getElem_toList] at e'
      have := h3 (below xs j + k) (by omega) (by omega)
      omega
end SW
namespace SW
open PySem PySem.SetTable
def Bare (t : SetTable) (j : Nat) : Prop := t.place[below t.place j]? ≠ some j
theorem bare_of {t : SetTable} {j : Nat} (h : ∀ i, t.slot j ≠ .live i) : Bare t j := fun z => by
  refine h (below t.place j) ?_
  unfold SetTable.slot
  dsimp only
  rw [if_pos (by rw [z]; exact beq_self_eq_true _)]
theorem probe_go {t : SetTable} {h : Int} : ∀ (f : Nat) (p : Probe), (∀ d, p.dummy = some d → ∀ i, t.slot d ≠ .live i) → ∀ m, probe.go t (fun _ => h + 1) h f p = some m →
    ∃ j d, m = .empty j d ∧ (∀ i, t.slot j ≠ .live i) ∧ ∀ e, d = some e → ∀ i, t.slot e ≠ .live i := by
  intro f
  induction f with
  | zero => intro p hd m e; unfold probe.go at e; cases e
  | succ f ih =>
    intro p hd m e
    unfold probe.go at e
    have adv : ∀ q : Probe, (t.advance q).dummy = q.dummy := fun q => by
      unfold SetTable.advance
      split <;> rfl
    split at e
    · next hs =>
      cases e
      exact ⟨_, _, rfl, (fun i z => by rw [hs] at z; cases z), hd⟩
    · next hs =>
      refine ih _ (fun d hd' => ?_) m e
      rw [adv] at hd'
      cases hd'
      intro i z
      rw [hs] at z
      cases z
    · next i hs =>
      rw [if_neg (by simp; omega)] at e
      refine ih _ (fun d hd' => ?_) m e
      rw [adv] at hd'
      exact hd d hd'
theorem free_bare {t : SetTable} {h : Int} {j : Nat} {b : Bool} (e : t.freeSlot h = some (j, b)) : Bare t j := by
  unfold SetTable.freeSlot at e
  split at e
  · next j' d hp =>
    obtain ⟨j2, d2, e2, h1, h2⟩ := probe_go _ _ (fun d z => by cases z) _ hp
    cases e2
    cases d with
    | none => cases e; exact bare_of h1
    | some d => cases e; exact bare_of (h2 d rfl)
  · cases e
theorem ris_range (n : Nat) : Ris (Array.range n) := by
  unfold Ris
  rw [Array.toList_range]
  exact List.pairwise_lt_range
theorem fits_standIn (t : SetTable) (n : Nat) : (t.standIn n).fits n = true := by
  unfold SetTable.fits SetTable.standIn SetTable.fill
  simp
  omega
abbrev SE := Array (Int × Value)
theorem orStandIn_ok {t : SetTable} {n : Nat} (hr : Ris t.place) : Ris (t.orStandIn n).place ∧ (t.orStandIn n).led = t.led ∧ (t.orStandIn n).fits n = true := by
  unfold SetTable.orStandIn
  by_cases h : t.fits n = true
  · rw [if_pos h]; exact ⟨hr, rfl, h⟩
  · rw [if_neg h]; exact ⟨ris_range _, rfl, fits_standIn _ _⟩
theorem layNew_ok {t : SetTable} {es : SE} {h : Int} {x : Value} (hr : Ris t.place) : (layNew t es h x).1.toList.Perm (es.toList ++ [(h, x)]) ∧ Ris (layNew t es h x).2.1.place ∧ (layNew t es h x).2.1.led = t.led ∧ (layNew t es h x).2.1.fits (layNew t es h x).1.size = true := by
  unfold layNew
  cases e : t.freeSlot h with
  | some r =>
    obtain ⟨j, b⟩ := r
    have hp : Ris (t.put j).1.place := ris_insert hr (free_bare e)
    obtain ⟨h1, h2, h3⟩ := orStandIn_ok (n := (insertAt es (t.put j).2 (h, x)).size) hp
    exact ⟨insertAt_perm _ _ _, h1, h2, h3⟩
  | none =>
    refine ⟨?_, ris_range _, rfl, ?_⟩
    · show (es.push (h, x)).toList.Perm _
      rw [Array.toList_push]
    · show (t.standIn (es.size + 1)).fits (es.push (h, x)).size = true
      rw [show (es.push (h, x)).size = es.size + 1 by simp]
      exact fits_standIn _ _
theorem ris_laid {mask finger moves : Nat} {led plain : Bool} {hs : Array Int} {t : SetTable} {order : Array Nat} (e : laid mask finger moves led plain hs = some (t, order)) : Ris t.place ∧ t.led = led := by
  unfold laid at e
  obtain ⟨owner, _, e⟩ := Option.bind_eq_some_iff.mp e
  cases e
  refine ⟨?_, rfl⟩
  unfold Ris
  dsimp only
  rw [List.map_filterMap]
  refine List.Pairwise.filterMap _ ?_ List.pairwise_lt_range
  intro a a' haa b hb b' hb'
  cases h1 : owner.getD a none with
  | none => rw [h1] at hb; cases hb
  | some u =>
    cases h2 : owner.getD a' none with
    | none => rw [h2] at hb'; cases hb'
    | some u' =>
      rw [h1] at hb; rw [h2] at hb'
      cases hb; cases hb'
      exact haa
theorem fm_of {α β : Type} {f : β → Option α} : ∀ {l : List β} {r : List α}, l.map f = r.map some → l.filterMap f = r
  | [], [], _ => rfl
  | [], _ :: _, h => by simp at h
  | _ :: _, [], h => by simp at h
  | b :: l, a :: r, h => by
    simp only [List.map_cons, List.cons.injEq] at h
    rw [List.filterMap_cons, h.1]
    exact congrArg (a :: ·) (fm_of h.2)
theorem range_items {α : Type} (es : Array α) : (List.range es.size).filterMap (fun i => es[i]?) = es.toList := by
  have e : (List.range es.size).map (fun i => es[i]?) = es.toList.map some := by
    apply List.ext_getElem
    · simp
    · intro i h1 h2
      simp at h1
      simp [h1]
  exact fm_of e
theorem relayAll_ok {t : SetTable} {es : SE} {n : Nat} : (relayAll t es n).1.toList.Perm es.toList ∧ Ris (relayAll t es n).2.1.place ∧ (relayAll t es n).2.1.led = t.led ∧ (relayAll t es n).2.1.fits (relayAll t es n).1.size = true := by
  unfold relayAll
  split
  · next t' order e =>
    dsimp only
    split
    · next hc =>
      rw [Bool.and_eq_true] at hc
      obtain ⟨h1, h2⟩ := ris_laid (show laid _ _ _ _ _ _ = some (t', order) from e)
      refine ⟨?_, h1, h2, hc.2⟩
      have hp : order.toList.Perm (List.range es.size) := List.isPerm_iff.mp hc.1
      dsimp only
      rw [Array.toList_filterMap]
      refine (hp.filterMap _).trans ?_
      rw [range_items]
    · exact ⟨.refl _, ris_range _, rfl, fits_standIn _ _⟩
  · exact ⟨.refl _, ris_range _, rfl, fits_standIn _ _⟩
end SW
namespace SW
open PySem PySem.SetTable
section
variable {prog : Program} {w : World} {κ : Type} [DecidableEq κ] (kd : KeyKind prog w κ)
def KeyOf (k : κ) (e : Int × Value) : Prop := kd.is k e.2 = true ∧ e.1 = kd.hash k ∧ e.2.scannable = true
def ledOf (w : World) : Bool := !(w.params.followText "set-order")
def SetW (h : Heap) (a : Addr) (ks : List κ) : Prop :=
  ∃ (o : Obj) (es : SE) (ep : Nat) (t : SetTable) (L : List (κ × (Int × Value))), h.get? a = some o ∧ o.ExactSet ∧ o.data = .set es ep t ∧ L.map (·.2) = es.toList ∧ (L.map (·.1)).Perm ks ∧ (∀ p ∈ L, KeyOf kd p.1 p.2) ∧ es.size < scanBound ∧ t.fits es.size = true ∧ Ris t.place ∧ t.led = ledOf w
variable {kd} {A : Around} {E : Value → Shared → Prop} {s : Shared} {a : Addr} {ks : List κ} {k : κ} {x : Value}
theorem elems_of {es : SE} {L : List (κ × (Int × Value))} (l1 : L.map (·.2) = es.toList) (l3 : ∀ p ∈ L, KeyOf kd p.1 p.2) : ElemsOf kd es.toList := fun e he => by
  rw [← l1] at he
  obtain ⟨p, hp, rfl⟩ := List.mem_map.mp he
  obtain ⟨a1, a2, a3⟩ := l3 p hp
  exact ⟨⟨p.1, a1, a2⟩, a3⟩
theorem SetW.kept {h h' : Heap} (S : SetW kd h a ks) (e : ∀ o, h.get? a = some o → h'.get? a = some o) : SetW kd h' a ks := by
  obtain ⟨o, es, ep, t, L, ho, r⟩ := S
  exact ⟨o, es, ep, t, L, e o ho, r⟩
theorem sw_store {h : Heap} {o : Obj} {es es1 : SE} {ep : Nat} {t t1 : SetTable} {L : List (κ × (Int × Value))} (ho : h.get? a = some o) (hx : o.ExactSet) (hd : o.data = .set es ep t) (l1 : L.map (·.2) = es1.toList) (l2 : (L.map (·.1)).Perm ks) (l3 : ∀ p ∈ L, KeyOf kd p.1 p.2)
    (hb : es1.size < scanBound) (hf : t1.fits es1.size = true) (hr : Ris t1.place) (hl : t1.led = ledOf w) : (h.update a (Obj.putSet es1 t1)).get? a = some { o with data := .set es1 (ep + 1) t1 } ∧ SetW kd (h.update a (Obj.putSet es1 t1)) a ks := by
  have g : (h.update a (Obj.putSet es1 t1)).get? a = some { o with data := .set es1 (ep + 1) t1 } := by
    have z := Heap.get?_update_self (Obj.putSet es1 t1) ho (by rw [putSet_of es1 t1 hd]; rfl)
    rwa [putSet_of es1 t1 hd] at z
  exact ⟨g, _, es1, ep + 1, t1, L, g, hx, rfl, l1, l2, l3, hb, hf, hr, hl⟩
theorem sw_tail {g : Bool → Sem Unit} (hg : ∀ (b : Bool) (s1 : Shared) (P : Unit → Shared → Prop), P () s1 → wpAny (model prog w) A (g b) P E s1) {o : Obj} {es es1 : SE} {ep : Nat} {t t1 : SetTable} {L : List (κ × (Int × Value))} (ho : s.heap.get? a = some o) (hx : o.ExactSet) (hd : o.data = .set es ep t)
    (l1 : L.map (·.2) = es1.toList) (l2 : (L.map (·.1)).Perm ks) (l3 : ∀ p ∈ L, KeyOf kd p.1 p.2) (hb : es1.size < scanBound) (hf : t1.fits es1.size = true) (hr : Ris t1.place) (hl : t1.led = ledOf w) {wd : Bool} {R : Option Bool → Shared → Prop}
    (q : ∀ h', Heap.SameBut a s.heap h' → SetW kd h' a ks → R (some true) { s with heap := h' }) :
    wpAny (model prog w) A (do
        storeSet a es1 t1
        if (!wd && t1.tooFull) = true then do
            g (relayAll t1 es1 (SetTable.grown es1.size)).2.2
            storeSet a (relayAll t1 es1 (SetTable.grown es1.size)).1 (relayAll t1 es1 (SetTable.grown es1.size)).2.1
            pure (some true)
          else pure (some true)) R E s := by
  refine wpAny_bind (wpAny_storeSet_of ho hd ?_ (fits_of_scanBound hb))
  obtain ⟨g1, S1⟩ := sw_store (kd := kd) ho hx hd l1 l2 l3 hb hf hr hl
  have b1 := Heap.SameBut.update s.heap a (Obj.putSet es1 t1)
  by_cases c : (!wd && t1.tooFull) = true
  · rw [if_pos c]
    obtain ⟨r1, r2, r3, r4⟩ := relayAll_ok (t := t1) (es := es1) (n := SetTable.grown es1.size)
    generalize relayAll t1 es1 (SetTable.grown es1.size) = z at r1 r2 r3 r4 ⊢
    obtain ⟨L2, p1, p2⟩ := L2.perm_lift (r1.trans (.of_eq l1.symm)) L rfl
    have hz : z.1.size = es1.size := by simpa using r1.length_eq
    refine wpAny_bind (hg _ _ _ ?_)
    refine wpAny_bind (wpAny_storeSet_of g1 rfl ?_ (fits_of_scanBound (by rw [hz]; exact hb)))
    obtain ⟨_, S2⟩ := sw_store (kd := kd) (es1 := z.1) (t1 := z.2.1) g1 hx rfl p2.symm ((p1.map _).trans l2) (fun p hp => l3 p (p1.mem_iff.mp hp)) (by rw [hz]; exact hb) r4 r2 (r3.trans hl)
    exact wpAny_pure (q _ (b1.trans (Heap.SameBut.update _ a _)) S2)
  · rw [if_neg c]
    exact wpAny_pure (q _ b1 S1)
theorem sw_add {Q : Bool → Shared → Prop} (hk : kd.is k x = true) (hs : x.scannable = true) (S : SetW kd s.heap a ks) (room : ks.length + 1 < scanBound) (q : ∀ b h', Heap.SameBut a s.heap h' → SetW kd h' a (if k ∈ ks then ks else ks ++ [k]) → Q b { s with heap := h' }) :
    wpAny (model prog w) A (setAddHashed a x (kd.hash k)) Q E s := by
  obtain ⟨o, es, ep, t, L, ho, hx, hd, l1, l2, l3, hb, hf, hr, hl⟩ := S
  have el := elems_of l1 l3
  have len : es.size = ks.length := by
    have e1 := congrArg List.length l1
    have e2 := l2.length_eq
    simp only [List.length_map, Array.length_toList] at e1 e2
    omega
  unfold setAddHashed setAddHashedIn
  refine wpAny_holding (wpAny_bind (wpAny_setState_of ho hd hf ?_))
  dsimp only
  rw [byScan_of hs hb el]
  simp only [↓reduceIte]
  unfold setAddByScan
  refine wpAny_bind (wpAny_bind (wpAny_rule (wpAny_bind (wpAny_setScan_of hk ho hd hf el ?_))))
  cases e : List.findIdx? (fun e => kd.is k e.2) es.toList with
  | some j =>
    obtain ⟨hj, hp, _⟩ := List.findIdx?_eq_some_iff_getElem.mp e
    have hm : k ∈ ks := by
      have hmem : es.toList[j] ∈ L.map (·.2) := by rw [l1]; exact List.getElem_mem hj
      obtain ⟨p, hp2, e2⟩ := List.mem_map.mp hmem
      rw [← e2] at hp
      rw [kd.inj _ _ _ hp (l3 p hp2).1]
      exact l2.mem_iff.mp (List.mem_map.mpr ⟨p, hp2, rfl⟩)
    refine wpAny_pure (wpAny_pure ?_)
    have z := q false s.heap (Heap.SameBut.refl a s.heap)
    rw [if_pos hm] at z
    exact z ⟨o, es, ep, t, L, ho, hx, hd, l1, l2, l3, hb, hf, hr, hl⟩
  | none =>
    have hm : k ∉ ks := fun z => by
      obtain ⟨p, hp, e2⟩ := List.mem_map.mp (l2.mem_iff.mpr z)
      have := List.findIdx?_eq_none_iff.mp e p.2 (by rw [← l1]; exact List.mem_map.mpr ⟨p, hp, rfl⟩)
      rw [← e2, (l3 p hp).1] at this
      cases this
    obtain ⟨n1, n2, n3, n4⟩ := layNew_ok (t := t) (es := es) (h := kd.hash k) (x := x) hr
    dsimp only
    generalize layNew t es (kd.hash k) x = z at n1 n2 n3 n4 ⊢
    obtain ⟨L', p1, p2⟩ := L2.perm_lift n1 (L ++ [(k, (kd.hash k, x))]) (by rw [List.map_append, l1]; rfl)
    obtain ⟨es1, t1, wd, gv⟩ := z
    dsimp only at n1 n2 n3 n4 p2 ⊢
    have m2 : (L'.map (·.1)).Perm (ks ++ [k]) := by
      refine (p1.map _).trans ?_
      rw [List.map_append]
      exact l2.append_right _
    have m3 : ∀ p ∈ L', KeyOf kd p.1 p.2 := fun p hp => by
      rcases List.mem_append.mp (p1.mem_iff.mp hp) with h | h
      · exact l3 p h
      · rw [List.mem_singleton.mp h]
        exact ⟨hk, rfl, hs⟩
    have mz : es1.size < scanBound := by
      have := n1.length_eq
      simp only [Array.length_toList, List.length_append, List.length_cons, List.length_nil] at this
      omega
    have hgw : ∀ (b : Bool) (s1 : Shared) (P : Unit → Shared → Prop), P () s1 → wpAny (model prog w) A (match b with | true => rule "set.scan.the-table-gave-way" | false => pure ()) P E s1 := fun b s1 P h => by
      cases b
      · exact wpAny_pure h
      · exact wpAny_rule h
    have fin : ∀ h', Heap.SameBut a s.heap h' → SetW kd h' a (ks ++ [k]) → Q true { s with heap := h' } := fun h' b1 S' => q true h' b1 (by rw [if_neg hm]; exact S')
    refine wpAny_bind (hgw _ _ _ ?_)
    by_cases pl : t1.plain = true
    · rw [if_pos pl]
      refine wpAny_bind ?_
      rw [hashByValue_scannable 8 hs]
      refine wpAny_pure (sw_tail (kd := kd) hgw ho hx hd p2.symm m2 m3 mz ?_ ?_ ?_ fun h' b1 S' => wpAny_pure (fin h' b1 S'))
      · split
        · exact n4
        · exact SetTable.fits_plain_off n4
      · split <;> exact n2
      · split <;> exact n3.trans hl
    · rw [if_neg pl]
      refine wpAny_bind (wpAny_pure ?_)
      simp only [↓reduceIte]
      exact sw_tail (kd := kd) hgw ho hx hd p2.symm m2 m3 mz n4 n2 (n3.trans hl) fun h' b1 S' => wpAny_pure (fin h' b1 S')
end
end SW
namespace SW
open PySem PySem.Spec PySem.SetTable PyProof.Rows
def onceK {κ : Type} [DecidableEq κ] (ks : List κ) (k : κ) : List κ := if k ∈ ks then ks else ks ++ [k]
def onces {κ : Type} [DecidableEq κ] (ks : List κ) : List κ := ks.foldl onceK []
theorem onceK_le {κ : Type} [DecidableEq κ] (ks : List κ) (k : κ) : (onceK ks k).length ≤ ks.length + 1 := by
  unfold onceK
  split
  · omega
  · rw [List.length_append]; exact Nat.le_refl _
theorem onces_snoc {κ : Type} [DecidableEq κ] (ks : List κ) (k : κ) : onces (ks ++ [k]) = onceK (onces ks) k := by
  unfold onces
  rw [List.foldl_append]
  rfl
theorem fold_once {κ : Type} [DecidableEq κ] : ∀ (ks acc : List κ), acc.Nodup → (ks.foldl onceK acc).Nodup ∧ (ks.foldl onceK acc).length ≤ acc.length + ks.length ∧ ∀ x, x ∈ ks.foldl onceK acc ↔ x ∈ acc ∨ x ∈ ks
  | [], acc, h => ⟨h, Nat.le_refl _, fun x => by simp⟩
  | k :: ks, acc, h => by
    have hn : (onceK acc k).Nodup := by
      unfold onceK
      split
      · exact h
      · next hk =>
        rw [List.nodup_append]
        exact ⟨h, List.pairwise_singleton _ _, fun a ha b hb e => hk (by rw [List.mem_singleton.mp hb] at e; rw [← e]; exact ha)⟩
    obtain ⟨a, b, c⟩ := fold_once ks (onceK acc k) hn
    have := onceK_le acc k
    refine ⟨a, by rw [List.foldl_cons, List.length_cons]; omega, fun x => ?_⟩
    rw [List.foldl_cons, c x, List.mem_cons]
    unfold onceK
    split
    · next hk =>
      constructor
      · rintro (h | h)
        · exact .inl h
        · exact .inr (.inr h)
      · rintro (h | h | h)
        · exact .inl h
        · rw [h]; exact .inl hk
        · exact .inr h
    · rw [List.mem_append, List.mem_singleton]
      constructor
      · rintro ((h | h) | h)
        · exact .inl h
        · exact .inr (.inl h)
        · exact .inr (.inr h)
      · rintro (h | h | h)
        · exact .inl (.inl h)
        · exact .inl (.inr h)
        · exact .inr h
theorem onces_le {κ : Type} [DecidableEq κ] (ks : List κ) : (onces ks).length ≤ ks.length := by unfold onces; simpa using (fold_once ks [] List.nodup_nil).2.1
section
variable {prog : Program} {w : World} {κ : Type} [DecidableEq κ] {kd : KeyKind prog w κ} {A : Around} {R : Result → Shared → Prop} {E : Value → Shared → Prop} {s : Shared}
theorem sw_loop {I Sa l : Addr} {its : Array Value} {ks : List κ} (hh : A.handled = none) (hlI : l ≠ I) (hSI : Sa ≠ I) (hSl : Sa ≠ l) (hz : its.size = ks.length) (hit : ∀ (i : Nat) (v : Value), its[i]? = some v → ∃ k, ks[i]? = some k ∧ kd.is k v = true ∧ v.scannable = true) (hb : ks.length + 1 < scanBound) :
    ∀ (m i : Nat) (s : Shared), ks.length - i = m → i ≤ ks.length → s.heap.IsListIter I l i → s.heap.IsList l its → SetW kd s.heap Sa (onces (ks.take i)) →
      (∀ h' tk, (∀ b o, b ≠ Sa → b ≠ I → s.heap.get? b = some o → h'.get? b = some o) → SetW kd h' Sa (onces ks) → R (.ok (.ret .none)) { s with heap := h', toks := tk }) →
      codeAny (model prog w) A (.builtin "set.update.loop" ⟨[.ref Sa, .ref I], []⟩) R s := by
  intro m
  induction m with
  | zero =>
    intro i s hm hi st hl S q
    have e : i = ks.length := by omega
    rw [e, List.take_length] at S
    refine codeAny_builtin F.entry_set_update_loop ?_
    rw [Around.under_plainId F.plain_set_update_loop _]
    show wpAny _ A.in1 (pyNext (.ref I) >>= _) _ _ s
    refine wpAny_bind (wpAny_pyNext_list_end (A := A.in1) (by simpa using hh) st hl (by simp; omega) fun h' eb => ?_)
    show wpAny _ A.in1 (ret Value.none) _ _ _
    exact wpAny_pure (q h' s.toks (fun b o _ n z => eb b o n z) (S.kept fun o z => eb Sa o hSI z))
  | succ m ih =>
    intro i s hm hi st hl S q
    have hlt : i < its.size := by omega
    obtain ⟨k, hk, hk2, hk3⟩ := hit i _ (Array.getElem?_eq_getElem hlt)
    refine codeAny_builtin F.entry_set_update_loop ?_
    rw [Around.under_plainId F.plain_set_update_loop _]
    show wpAny _ A.in1 (pyNext (.ref I) >>= _) _ _ s
    refine wpAny_bind (wpAny_pyNext_list_item (A := A.in1) st hl (Array.getElem?_eq_getElem hlt) fun h' st' sb => ?_)
    generalize its[i] = v at hk2 hk3
    show wpAny _ A.in1 (holding [v] (setAdd Sa v) >>= _) _ _ _
    refine wpAny_bind (wpAny_holding ?_)
    unfold setAdd
    refine wpAny_holding (wpAny_bind (kd.pyHash hk2 ?_))
    have S1 : SetW kd h' Sa (onces (ks.take i)) := S.kept fun o z => (sb.2 Sa hSI).trans z
    have rm : (onces (ks.take i)).length + 1 < scanBound := by
      have := onces_le (ks.take i)
      rw [List.length_take] at this
      omega
    refine sw_add (kd := kd) (s := { s with heap := h', toks := s.toks + 1 }) hk2 hk3 S1 rm fun b h2 b2 S2 => ?_
    have S3 : SetW kd h2 Sa (onces (ks.take (i + 1))) := by
      obtain ⟨hi', e⟩ := List.getElem?_eq_some_iff.mp hk
      rw [List.take_succ_eq_append_getElem hi', e, onces_snoc]
      exact S2
    have k2 : ∀ b o, b ≠ Sa → h'.get? b = some o → h2.get? b = some o := fun b o n z => (b2.2 b n).trans z
    refine wpAny_pure ⟨plainId_quiet F.plain_set_update_loop _, ih (i + 1) _ (by omega) (by omega) (st'.at fun o z => k2 I o (Ne.symm hSI) z) ?_ S3 fun h3 tk k3 S4 => ?_⟩
    · obtain ⟨o, z, r⟩ := hl
      exact ⟨o, k2 l o (Ne.symm hSl) ((sb.2 l hlI).trans z), r⟩
    · exact q h3 tk (fun b o n1 n2 z => k3 b o n1 n2 (k2 b o n1 ((sb.2 b n2).trans z))) S4
theorem sw_fresh {h : Heap} {a : Addr} (e : h.get? a = some { cls := .type "set", dict := none, data := .set #[] 0 (.fresh 0 0 (ledOf w)) }) : SetW kd h a [] :=
  ⟨_, #[], 0, _, [], e, ⟨rfl, rfl, rfl⟩, rfl, rfl, .nil, fun p hp => (nomatch hp), by unfold scanBound; decide, rfl, List.Pairwise.nil, rfl⟩
end
end SW
namespace SW
open PySem PySem.Spec PySem.SetTable
section
variable {prog : Program} {w : World} {κ : Type} [DecidableEq κ] {kd : KeyKind prog w κ} {A : Around} {E : Value → Shared → Prop} {s : Shared}
abbrev emptyO (w : World) : Obj := { cls := .type "set", dict := none, data := .set #[] 0 (.fresh 0 0 (ledOf w)) }
theorem sw_new (v : Value) {P : Value → Shared → Prop} (q : P (.ref s.heap.objs.size) { s with heap := s.heap.push (emptyO w) }) : codeAny (model prog w) A (.call (.builtin "set.__new__") ⟨[.type "set", v], []⟩) (wants P E) s := by
  refine codeAny_of_tree (show wpAny _ A.in1 (do checkBuiltinCall "set.__new__" ⟨[.type "set", v], []⟩; again (.builtin "set.__new__" ⟨[.type "set", v], []⟩)) _ _ s from ?_)
  refine wpAny_bind (wpAny_of_eq (F.newCall_set_1 v) (wpAny_pure ⟨plainId_quiet F.plain_set_new _, codeAny_builtin F.entry_set_new (show wpAny _ _ _ _ _ s from ?_)⟩))
  rw [Around.under_plainId F.plain_set_new _]; unfold Builtin.«set.__new__» Builtin.Frozenset.newClass
  have subs := sub_set_self
  obtain ⟨h0, g0, d0, k0, o0⟩ := s; dsimp only
  wp_walk
  refine wpAny_askSetting (wpAny_pure ?_); dsimp only; simp only [newObj]
  exact wpAny_bind (wpAny_alloc (wpAny_pure (wpAny_pure q)))
theorem sw_set {l : Addr} {its : Array Value} {ks : List κ} {Q : Value → Shared → Prop} (hh : A.handled = none) (hl : s.heap.IsList l its) (hz : its.size = ks.length) (hit : ∀ (i : Nat) (v : Value), its[i]? = some v → ∃ k, ks[i]? = some k ∧ kd.is k v = true ∧ v.scannable = true) (hb : ks.length + 1 < scanBound)
    (q : ∀ h' tk, SetW kd h' s.heap.objs.size (onces ks) → (∀ b o, s.heap.get? b = some o → h'.get? b = some o) → Q (.ref s.heap.objs.size) { s with heap := h', toks := tk }) : wpAny (model prog w) A (call (.type "set") [.ref l]) Q E s := by
  obtain ⟨c, tl, m1⟩ := F.called_set.mro
  have m2 := F.called_set.made; have m3 := F.called_set.sub
  refine wpAny_call (codeAny_of_tree (show wpAny _ _ (callAny (.type "set") _) _ _ _ from wpAny_pure ⟨Code.quiet_builtin _ (by decide +kernel), codeAny_builtin F.entry_type_call ?_⟩))
  rw [Around.under_plain (weight_type_call_type "set" [.ref l] []) rfl]; have m4 := F.called_set.notType; have m5 := F.called_set.canCreate; have m6 := F.typeCall_set_1 (.ref l)
  repeat (any_goals (first | assumption | wp_step))
  refine codeAny_mono (sw_new (.ref l) (E := E) (P := fun v s1 => v = .ref s.heap.objs.size ∧ s1 = { s with heap := s.heap.push (emptyO w) }) ⟨rfl, rfl⟩) fun r s1 hr => ?_
  cases r with
  | error e => exact hr
  | ok fl =>
    cases fl with
    | ret v =>
      obtain ⟨rfl, rfl⟩ := hr
      have g1 : (s.heap.push (emptyO w)).get? s.heap.objs.size = some (emptyO w) := Heap.get?_push_size _ rfl
      have tS : Shared.TypeIs { s with heap := s.heap.push (emptyO w) } (.ref s.heap.objs.size) "set" := ⟨_, g1, rfl⟩
      have m7 := F.called_set.init.lookup; have m8 := F.called_set.init.bind (.ref s.heap.objs.size)
      repeat (any_goals (first | assumption | wp_step))
      refine codeAny_mono (codeAny_call_builtin (R := wants (fun r s2 => r = .none ∧ ∃ h' tk, s2 = { s with heap := h', toks := tk } ∧ SetW kd h' s.heap.objs.size (onces ks) ∧ ∀ b o, s.heap.get? b = some o → h'.get? b = some o) E) F.called_set.init.plain F.entry_set_init (check_set_init_1 tS ?_)) fun r2 s2 hr2 => ?_
      · obtain ⟨⟨c1, d1, a1, z1⟩, e1, c2, n1, d2⟩ := hl
        simp only at c2 d2
        subst c2 d2
        have e2 : (s.heap.push (emptyO w)).get? l = some { cls := .type "list", dict := d1, data := .seq its n1, slots := z1 } := Heap.get?_push_of_some _ e1
        have n2 := F.sub_list_set; have n3 := F.sub_list_frozenset
        have n4 : (Value.type "list" == Value.type "dict") = false := by decide
        have l1 : (s.heap.push (emptyO w)).IsList l its := ⟨_, e2, rfl, n1, rfl⟩
        unfold Builtin.«set.__init__» noKeywords Builtin.Frozenset.updateFrom; generalize hp : pyIter = PI
        wp_walk
        subst hp
        refine wpAny_pyIter_list l1 (wpAny_bind (wpAny_runValue ?_))
        have lt1 : l < s.heap.objs.size := Heap.lt_size e1
        have zz : (s.heap.push (emptyO w)).objs.size = s.heap.objs.size + 1 := Heap.size_push _ _
        refine sw_loop (kd := kd) (I := (s.heap.push (emptyO w)).objs.size) (l := l) (its := its) (by simpa using hh) (by rw [zz]; exact Nat.ne_of_lt (Nat.lt_succ_of_lt lt1)) (by rw [zz]; exact Nat.ne_of_lt (Nat.lt_succ_self _)) (Nat.ne_of_gt lt1) hz hit hb ks.length 0 _ rfl (Nat.zero_le _) ⟨_, Heap.get?_push_size _ rfl, rfl, rfl⟩ (l1.push _) (sw_fresh (Heap.get?_push_of_some _ g1)) fun h' tk kp S => ?_
        show wpAny _ _ _ _ _ _
        refine wpAny_pure (show wpAny _ _ (ret Value.none) _ _ _ from wpAny_pure ⟨rfl, h', tk, rfl, S, fun b o e => ?_⟩)
        have := Heap.lt_size e
        exact kp b o (Nat.ne_of_lt this) (by rw [zz]; exact Nat.ne_of_lt (Nat.lt_succ_of_lt this)) (Heap.get?_push_of_some _ (Heap.get?_push_of_some _ e))
      · cases r2 with
        | error e => exact hr2
        | ok fl2 =>
          cases fl2 with
          | ret r =>
            obtain ⟨rfl, h', tk, rfl, S, kp⟩ := hr2
            repeat (any_goals (first | assumption | wp_step))
            exact q _ _ S kp
          | _ => exact hr2.elim
    | _ => exact hr.elim
end
end SW
namespace SW
open PySem PySem.Spec PySem.SetTable
section
variable {prog : Program} {w : World} {A : Around} {E : Value → Shared → Prop} {s : Shared}
end
end SW
namespace SW
open PySem PySem.Spec PySem.SetTable
local macro_rules | `(term| type_of% $n:ident) => return Lean.mkIdent (Lean.mkPrivateNameCore `PySem.SetOps (`PySem ++ n.getId))
local macro_rules | `(tactic| delta $n:ident) => if Lean.isPrivateName n.getId then Lean.Macro.throwUnsupported else `(tactic| delta $(Lean.mkIdent (Lean.mkPrivateNameCore `PySem.SetOps (`PySem ++ n.getId))):ident)
def dr (es : SE) (t : SetTable) : Bool := (type_of% drawn) es t
def IsSI (h : Heap) (it : Addr) (first : Value) (i : Nat) (a : Addr) (n ep : Nat) : Prop := ∃ o, h.get? it = some o ∧ o.cls = .type "set_iterator" ∧ o.data = .fields #[first, .int i 0, .ref a, .int n 0, .int ep 0]
section
variable {prog : Program} {w : World} {A : Around} {E : Value → Shared → Prop} {s : Shared} {a it : Addr} {o : Obj} {es : SE} {ep : Nat} {t : SetTable}
end
end SW
namespace SW
open PySem PySem.Spec PySem.SetTable
local macro_rules | `(term| type_of% $n:ident) => return Lean.mkIdent (Lean.mkPrivateNameCore `PySem.SetOps (`PySem ++ n.getId))
local macro_rules | `(tactic| delta $n:ident) => if Lean.isPrivateName n.getId then Lean.Macro.throwUnsupported else `(tactic| delta $(Lean.mkIdent (Lean.mkPrivateNameCore `PySem.SetOps (`PySem ++ n.getId))):ident)
def SAt (w : World) (a : Addr) (es : SE) (ep : Nat) (t : SetTable) (ord : List Value) (first : Value) (i : Nat) (h : Heap) : Prop :=
  (w.params.followText "set-order" = true ∧ (∃ j : Nat, first = .int j 0) ∧ ord = (pickOrder (w.params.setOrder a ep) es).toList.map (·.2)) ∨
  (w.params.followText "set-order" = false ∧ dr es t = false ∧ t.led = true ∧ Ris t.place ∧ (∃ j : Nat, first = .int j 0 ∧ below t.place j = i) ∧ ord = es.toList.map (·.2)) ∨
  (∃ (tp : Addr) (ps : List Nat), first = .ref tp ∧ h.get? tp = some { cls := .type "tuple", data := .seq (ps.map fun (i : Nat) => Value.int i 0).toArray } ∧ ord.map some = ps.map fun p => es[p]?.map (·.2))
section
variable {prog : Program} {w : World} {A : Around} {E : Value → Shared → Prop} {s : Shared} {a it : Addr} {o : Obj} {es : SE} {ep : Nat} {t : SetTable} {ord : List Value} {first : Value} {i : Nat}
end
end SW
namespace SW
open PySem PySem.Spec PySem.SetTable
local macro_rules | `(term| type_of% $n:ident) => return Lean.mkIdent (Lean.mkPrivateNameCore `PySem.SetOps (`PySem ++ n.getId))
local macro_rules | `(tactic| delta $n:ident) => if Lean.isPrivateName n.getId then Lean.Macro.throwUnsupported else `(tactic| delta $(Lean.mkIdent (Lean.mkPrivateNameCore `PySem.SetOps (`PySem ++ n.getId))):ident)
section
variable {prog : Program} {w : World} {A : Around} {E : Value → Shared → Prop} {s : Shared} {a it : Addr} {o : Obj} {es : SE} {ep : Nat} {t : SetTable} {ord : List Value} {first : Value} {i : Nat}
end
end SW
namespace SW
open PySem PySem.Spec PySem.SetTable
local macro_rules | `(term| type_of% $n:ident) => return Lean.mkIdent (Lean.mkPrivateNameCore `PySem.Builtin.List.Common (`PySem.Builtin.List ++ n.getId))
section
variable {prog : Program} {w : World} {A : Around} {E : Value → Shared → Prop} {s : Shared} {a it : Addr} {o : Obj} {es : SE} {ep : Nat} {t : SetTable} {ord : List Value}
theorem IsSI.at {h h' : Heap} {first : Value} {i n : Nat} (x : IsSI h it first i a n ep) (e : ∀ u, h.get? it = some u → h'.get? it = some u) : IsSI h' it first i a n ep := by
  obtain ⟨u, h1, r⟩ := x
  exact ⟨u, e u h1, r⟩
theorem SAt.at {h h' : Heap} {first : Value} {i : Nat} (x : SAt w a es ep t ord first i h) (e : ∀ tp u, first = .ref tp → h.get? tp = some u → h'.get? tp = some u) : SAt w a es ep t ord first i h' := by
  rcases x with x | x | ⟨tp, ps, e1, e2, e3⟩
  · exact .inl x
  · exact .inr (.inl x)
  · exact .inr (.inr ⟨tp, ps, e1, e tp _ e1 e2, e3⟩)
end
end SW
namespace SW
open PySem PySem.Spec PySem.SetTable
local macro_rules | `(tactic| delta $n:ident) => if Lean.isPrivateName n.getId then Lean.Macro.throwUnsupported else `(tactic| delta $(Lean.mkIdent (Lean.mkPrivateNameCore `PySem.Builtin.List.Common (`PySem.Builtin.List ++ n.getId))):ident)
section
variable {prog : Program} {w : World} {κ : Type} [DecidableEq κ] {kd : KeyKind prog w κ} {A : Around} {E : Value → Shared → Prop} {s : Shared} {a : Addr} {ks : List κ}
end
end SW
namespace SW
open PySem PySem.Spec PySem.SetTable
local macro_rules | `(tactic| delta $n:ident) => if Lean.isPrivateName n.getId then Lean.Macro.throwUnsupported else `(tactic| delta $(Lean.mkIdent (Lean.mkPrivateNameCore `PySem.Builtin.List.Common (`PySem.Builtin.List ++ n.getId))):ident)
local macro_rules | `(term| type_of% $n:ident) => return Lean.mkIdent (Lean.mkPrivateNameCore `PySem.Builtin.List.Common (`PySem.Builtin.List ++ n.getId))
section
variable {prog : Program} {w : World} {κ : Type} [DecidableEq κ] {kd : KeyKind prog w κ} {A : Around} {E : Value → Shared → Prop} {s : Shared} {a : Addr} {ks : List κ}
end
end SW
namespace L2
open PySem PySem.Spec PyProof.Rows
section
variable {X : Cx} {K : PySem.W.Frag} {σ : St} {H : Hp} {Q : VK} {pins : List (Addr × Obj)} {s : Shared}
end
end L2
namespace L2
open PySem PySem.Spec PyProof.Rows
section
variable {X : Cx} {K : PySem.W.Frag} {σ : St} {H : Hp} {Q : VK}
end
end L2
namespace L2
open PySem PySem.Spec PyProof.Rows
section
variable {X : Cx} {K : PySem.W.Frag} {σ : St} {H : Hp} {Q : VK}
theorem pre_sum (ns : List Int) : ∀ n, n ≤ ns.length → preSum (fun i => (ns[i]?).getD 0) n = (ns.take n).sum
  | 0, _ => rfl
  | n + 1, h => by
    rw [preSum, pre_sum ns n (by omega), List.take_succ_eq_append_getElem (by omega), List.sum_append, List.getElem?_eq_getElem (by omega)]
    simp
def rSumI (K : PySem.W.Frag) : List V → Hp → VK → Prop := fun xs H Q => ∃ (p : Addr) (ns : List Int), xs = [.ref p] ∧ SqL K H p (ns.map V.int) ∧ Q (.int ns.sum) H
theorem c_sumI (hc : X.calm = true := by rfl) : CallR X (.builtin "sum") (rSumI X.K) := by
  intro pins s σ H xs us Q I r h
  obtain ⟨p, ns, rfl, hp, q⟩ := h
  obtain ⟨u, rfl, ru⟩ := vals1 r
  cases (show u = Value.ref p from ru)
  obtain ⟨its, rv, pl, hz⟩ := I.list hp
  have il := pl.isList
  have lp : p < s.heap.objs.size := by obtain ⟨_, e, _⟩ := il; exact Heap.lt_size e
  have hil : its.length = ns.length := by rw [rv.len, List.length_map]
  refine call_sum_walkAnyS (wpAny_pyIter_list il ⟨s.heap.objs.size, [s.heap.objs.size, p], [s.heap.objs.size], _, its.toArray.size, _, _, fun i => (ns[i]?).getD 0, rfl, (Walks.list (A := X.A.in1) (I.ok.hd hc) _ p (Nat.ne_of_lt lp) its.toArray).toS, ⟨⟨_, Heap.get?_push_size _ rfl, rfl, rfl⟩, il.push _⟩, fun b hb => ?_, fun i v hP => ?_, fun s' t' hm => ?_⟩)
  · show b < (s.heap.push _).objs.size
    rw [size_push']
    rcases List.mem_cons.mp hb with e | hb
    · rw [e]; exact Nat.lt_succ_self _
    · rw [List.mem_singleton.mp hb]; exact Nat.lt_succ_of_lt lp
  · have hv : its[i]? = some v := by simpa using hP
    have hi : i < ns.length := by rw [← hil]; exact (List.getElem?_eq_some_iff.mp hv).1
    obtain ⟨u, hu, ru⟩ := rv.get (show (ns.map V.int)[i]? = some (V.int ns[i]) by rw [List.getElem?_map, List.getElem?_eq_getElem hi]; rfl)
    rw [hv] at hu
    cases hu
    obtain ⟨t, rfl⟩ := ru
    exact ⟨t, by dsimp only; rw [List.getElem?_eq_getElem hi]; rfl⟩
  · have hk : ∀ b o, s.heap.get? b = some o → s'.heap.get? b = some o := fun b o e =>
      hm.heap b o (fun z => absurd (Heap.lt_size e) (by rw [List.mem_singleton.mp z]; exact Nat.lt_irrefl _)) (Heap.get?_push_of_some _ e)
    rw [Moved.eq_with hm, List.size_toArray, hil, pre_sum ns _ (Nat.le_refl _), List.take_length]
    exact ⟨.int ns.sum, H, I.kept (t' := s'.toks) hk, ⟨_, rfl⟩, q⟩
theorem rd_sumI {p : Addr} (ns : List Int) (h1 : SqL K H p (ns.map V.int)) (q : Q (.int ns.sum) H) : rSumI K [.ref p] H Q := ⟨p, ns, rfl, h1, q⟩
end
end L2
namespace L2
open PySem PySem.Spec PyProof.Rows
section
variable {X : Cx} {K : PySem.W.Frag} {σ : St} {H : Hp} {Q : VK} {pins : List (Addr × Obj)} {s : Shared}
abbrev SetZ (X : Cx) (a : Addr) (ks : List Str) : Heap → Prop := fun h => SW.SetW (PySem.strKind X.prog X.w) h a ks
def rSetZ (X : Cx) : List V → Hp → VK → Prop := fun xs H Q => ∃ (p : Addr) (ns : List Str), xs = [.ref p] ∧ SqL X.K H p (ns.map V.str) ∧ ns.length < 4000 ∧ ∀ l H1, H l = none → Same H H1 → H1 l = some (.ext (SetZ X l (SW.onces ns))) → Q (.ref l) H1
theorem c_setZ (hc : X.calm = true := by rfl) : CallR X (.type "set") (rSetZ X) := by
  intro pins s σ H xs us Q I r h
  obtain ⟨p, ns, rfl, hp, hl, q⟩ := h
  obtain ⟨u, rfl, ru⟩ := vals1 r
  cases (show u = Value.ref p from ru)
  obtain ⟨its, r', pl, _⟩ := I.list hp
  have hil : its.length = ns.length := by rw [r'.len, List.length_map]
  refine SW.sw_set (kd := PySem.strKind X.prog X.w) (its := its.toArray) (ks := ns) (I.ok.hd hc) pl.isList (by rw [List.size_toArray, hil]) (fun i v hv => ?_) (by unfold scanBound; omega) fun h' tk S kp => ?_
  · rw [List.getElem?_toArray] at hv
    have hi : i < ns.length := by rw [← hil]; exact (List.getElem?_eq_some_iff.mp hv).1
    obtain ⟨u, hu, ru⟩ := r'.get (show (ns.map V.str)[i]? = some (V.str ns[i]) by rw [List.getElem?_map, List.getElem?_eq_getElem hi]; rfl)
    rw [hv] at hu
    cases hu
    obtain ⟨t, rfl⟩ := ru
    exact ⟨ns[i], List.getElem?_eq_getElem hi, by show Value.isStrOf ns[i] (.str ns[i] t) = true; simp [Value.isStrOf], rfl⟩
  · have ho : ∃ o, h'.get? s.heap.objs.size = some o := by obtain ⟨o, _, _, _, _, e, _⟩ := S; exact ⟨o, e⟩
    refine ⟨.ref s.heap.objs.size, _, I.laid (o := .ext (SetZ X s.heap.objs.size (SW.onces ns))) (t' := tk) kp (Nat.le_refl _) ⟨S, ho, fun h1 h2 z k => z.kept k⟩, rfl, q _ _ I.fresh (same_new I.fresh) upd_same⟩
theorem rd_setZ {p : Addr} (ns : List Str) (h1 : SqL X.K H p (ns.map V.str)) (h2 : ns.length < 4000) (q : ∀ l H1, H l = none → Same H H1 → H1 l = some (.ext (SetZ X l (SW.onces ns))) → Q (.ref l) H1) : rSetZ X [.ref p] H Q := ⟨p, ns, rfl, h1, h2, q⟩
end
end L2
namespace L2
open PySem PySem.Spec PyProof.Rows
section
variable {X : Cx} {σ : St} {H : Hp} {Q : VK}
def rLenZ (X : Cx) : List V → Hp → VK → Prop := fun xs H Q => ∃ (p : Addr) (ks : List Str), xs = [.ref p] ∧ H p = some (.ext (SetZ X p ks)) ∧ Q (.int (ks.length : Nat)) H
theorem c_lenZ : CallR X (.builtin "len") (rLenZ X) := by
  intro pins s σ H xs us Q I r h
  obtain ⟨p, ks, rfl, hp, q⟩ := h
  obtain ⟨u, rfl, ru⟩ := vals1 r
  cases (show u = Value.ref p from ru)
  obtain ⟨o, es, ep, t, L, ho, hex, hd, l1, l2, l3, hb, hf, _, _⟩ := (show SW.SetW (PySem.strKind X.prog X.w) s.heap p ks from (I.hok p _ hp).1)
  have e : es.size = ks.length := by rw [← Array.length_toList, ← l1, List.length_map, ← l2.length_eq, List.length_map]
  refine call_len_set ho hex hd hf (by unfold scanBound at hb; omega) ⟨.int (es.size : Nat), H, I.tok _, ⟨_, rfl⟩, ?_⟩
  rw [e]
  exact q
theorem rd_lenZ {p : Addr} (ks : List Str) (h1 : H p = some (.ext (SetZ X p ks))) (q : Q (.int (ks.length : Nat)) H) : rLenZ X [.ref p] H Q := ⟨p, ks, rfl, h1, q⟩
end
end L2
namespace L2
open PySem PySem.Spec PyProof.Rows
section
variable {X : Cx} {K : PySem.W.Frag} {σ : St} {H : Hp} {Q : VK} {o : Expr} {to : TE} {apos cpos : Pos}
end
end L2
namespace L2
open PySem PySem.Spec PySem.W PyProof.Rows TS
section
variable {prog : Program} {w : World} {A : Around} {E : Value → Shared → Prop} {s : Shared}
end
section
variable {X : Cx} {K : PySem.W.Frag} {σ : St} {H : Hp} {Q : VK}
end
end L2
namespace L2
open PySem PySem.Spec PySem.W PyProof.Rows
def SameB (T : Addr) (H H' : Hp) : Prop := ∀ b o, H b = some o → b ≠ T → H' b = some o
theorem SameB.of {T : Addr} {H H' : Hp} (s : Same H H') : SameB T H H' := fun b o e _ => s b o e
theorem SameB.refl {T : Addr} {H : Hp} : SameB T H H := fun _ _ e _ => e
theorem SameB.trans {T : Addr} {H H1 H2 : Hp} (a : SameB T H H1) (b : SameB T H1 H2) : SameB T H H2 := fun c o e n => b c o (a c o e n) n
theorem SameB.toN {T : Addr} {H H' : Hp} {ps : Array Value} (s : SameB T H H') (h : H T = some (.tbl ps)) : SameN H H' := fun b o e n => s b o e fun z => by rw [z, h] at e; cases e; exact n _ rfl
theorem TabOk.tbl {P : Addr} {pos : Pos} {qual : Str} {H : Hp} (h : TabOk P pos qual H) : ∃ ps, H P = some (.tbl ps) := let ⟨ps, a, _⟩ := h; ⟨ps, a⟩
section
variable {X : Cx} {params : Arguments} {body : Expr} {scope : Scope} {pos : Pos} {c P : Addr}
end
end L2
namespace L2
open PySem PySem.Spec PySem.W PyProof.Rows
def CloO (name qual : Str) (params : Arguments) (body : List Stmt) (scope : Scope) (cl : List (Str × Addr)) (f c' : Addr) (h : Heap) : Prop := ∃ doc pm ctv, h.get? f = some (fnMade name qual params body scope cl doc pm c' ctv)
def CelO (v : V) (c : Addr) (h : Heap) : Prop := ∃ u, RelV v u ∧ h.IsCell c (some u)
def del (H : Hp) (c : Addr) : Hp := fun b => if b = c then none else H b
theorem del_same {H : Hp} {c : Addr} : del H c c = none := if_pos rfl
theorem del_ne {H : Hp} {b c : Addr} (h : b ≠ c) : del H c b = H b := if_neg h
theorem del_some {H : Hp} {b c : Addr} {o : HO} (h : del H c b = some o) : b ≠ c ∧ H b = some o := by
  unfold del at h
  split at h
  · cases h
  · exact ⟨by assumption, h⟩
def cxC (P : Program) (w : World) (K : PySem.W.Frag) (mg : Str → Option Value) (base : Heap) (N : List Str) (qual : Str) (scope : Scope) (f : Addr) (cd : Value) (cl : List (Str × Addr)) (A : Around) (outer : List Env) (s : Shared) (H : Hp) : Cx where
  prog := P
  w := w
  K := K
  mg := mg
  base := base
  A := A.deeper (envX qual scope s.heap.objs.size f cd cl)
  N := N
  s₀ := s
  H₀ := H
  env := envX qual scope s.heap.objs.size f cd cl
  outer := outer
  stack := envX qual scope s.heap.objs.size f cd cl :: outer
  ex := []
  calm := true
  fn := fun _ => false
  pn := []
  xe := fun _ _ => False
structure CloScope (N ps : List Str) (p : Str) (ip : Nat) (sc : Scope) : Prop where
  kind : sc.kind = .function
  co : sc.isCoroutine = false
  gen : sc.isGenerator = false
  nd : N.Nodup
  pre : N.take ps.length = ps
  par : ∀ x ∈ ps, sc.names.lookup x = some .local
  nocell : ∀ y ∈ sc.names, y.2 ≠ .cell
  isfree : sc.names.lookup p = some .free
  free : ∀ y ∈ sc.names, y.2 = .free → y.1 = p
  at_ : N[ip]? = some p
  behind : ps.length ≤ ip
section
variable {P : Program} {w : World} {K : PySem.W.Frag} {mg : Str → Option Value} {base : Heap}
theorem hok_del {H : Hp} {h : Heap} {c : Addr} {P' : Heap → Prop} (x : HOk P w H h) (e : H c = some (.ext P')) : HOk P w (del H c) h := fun a o q => by
  obtain ⟨n, q⟩ := del_some q
  exact (x a o q).stay (fun b u _ r => r) (fun b r => by rw [del_ne (fun z => by rw [z, e] at r; cases r)]; exact r) fun b xs r => by rw [del_ne (fun z => by rw [z, e] at r; cases r)]; exact r
theorem zip_look {x : Str} {u : Value} : ∀ {ps : List Str} {us : List Value} {i : Nat}, ps.Nodup → ps[i]? = some x → us[i]? = some u → (ps.zip us).reverse.lookup x = some u
  | [], us, i, _, h, _ => by simp at h
  | q :: ps, [], i, _, _, h => by simp at h
  | q :: ps, v :: us, 0, nd, h1, h2 => by
    simp at h1 h2
    subst h1 h2
    rw [List.nodup_cons] at nd
    rw [List.zip_cons_cons, List.reverse_cons, List.lookup_append]
    have e : (ps.zip us).reverse.lookup q = none := by
      rw [List.lookup_eq_none_iff]
      intro y hy
      have := (List.of_mem_zip (List.mem_reverse.mp hy)).1
      have hne : q ≠ y.1 := fun z => nd.1 (z ▸ this)
      simpa using hne
    rw [e]
    simp
  | q :: ps, v :: us, i + 1, nd, h1, h2 => by
    rw [List.nodup_cons] at nd
    rw [List.zip_cons_cons, List.reverse_cons, List.lookup_append, zip_look (i := i) nd.2 (by simpa using h1) (by simpa using h2)]
    rfl
theorem clo_run {name qual : Str} {params : Arguments} {body : List Stmt} {scope : Scope} {N ps : List Str} {p : Str} {ip : Nat} {f c' cc : Addr} {A : Around} {outer : List Env} {s : Shared} {H : Hp} {us : List Value} {vs : List V} {v : V} {Q : V → Prop} {k : Nat}
    (S : CloScope N ps p ip scope) (hr : Room (k + 1) A) (e0 : Env0 P w K mg base A outer s H) (hf : H f = some (.ext (CloO name qual params body scope [(p, cc)] f c'))) (hc : H c' = some (.ext (CodeO qual c'))) (hcc : H cc = some (.ext (CelO v cc)))
    (hb : ∀ doc pm ctv, bindArgs (fnX name qual params body scope [(p, cc)] .none .none doc pm none (.ref c') ctv) ⟨us, []⟩ = pure (ps.zip us)) (hl : vs.length = ps.length) (r : Vals vs us)
    (hbody : Room k (A.deeper (envX qual scope s.heap.objs.size f (.ref c') [(p, cc)])) → ∃ t, BSs (cxC P w K mg base N qual scope f (.ref c') [(p, cc)] A outer s (del H cc)) body t ∧
      t { nx := fun _ _ => False, rt := fun v' H' => H' = del H cc ∧ Q v' } ((start N vs).set ip (some v)) (del H cc)) :
    wpAny (model P w) A (call (.ref f) us) (CE outer P w H s fun v' H' => H' = H ∧ Q v') (fun _ _ => False) s := by
  obtain ⟨doc, pm, ctv, gf⟩ := (e0.hok f _ hf).1
  have hcr : s.heap.CodeRec (.ref c') qual := (e0.hok c' _ hc).1
  obtain ⟨uc, ruc, oc, gcc, hoc⟩ := (e0.hok cc _ hcc).1
  have lim : s.heap.NoLimit := e0.mod.nolimit.keeps fun b o e => (e0.bs b o e).1
  refine wpAny_call (codeAny_call_function hr.depth gf rfl S.co S.gen rfl hcr ?_)
  rw [hb]
  refine wpAny_pure (wpAny_newFunctionEnv S.nocell (fun y hy => S.par y.1 (List.of_mem_zip hy).1) (fun h' hn hsb => ?_) S.kind)
  have kp : ∀ b o, s.heap.get? b = some o → h'.get? b = some o := fun b o e => by
    rw [hsb.2 b (Nat.ne_of_lt (Heap.lt_size e))]
    exact Heap.get?_push_of_some _ e
  refine ⟨lim.keeps kp, codeAny_func ?_⟩
  obtain ⟨t, ht, hq⟩ := hbody (hr.deeper _)
  have fr : del H cc s.heap.objs.size = none := by
    by_cases z : s.heap.objs.size = cc
    · rw [z]; exact del_same
    · rw [del_ne z]; exact e0.hok.fresh (Nat.le_refl _)
  have lk1 : ∀ x c, ([(p, cc)] : List (Str × Addr)).lookup x = some c → x = p ∧ c = cc := fun x c e => by
    rw [List.lookup_cons] at e
    by_cases z : x = p
    · subst z
      simp at e
      exact ⟨rfl, e.symm⟩
    · rw [beq_eq_false_iff_ne.mpr z] at e
      simp at e
  have lkp : ([(p, cc)] : List (Str × Addr)).lookup p = some cc := by simp
  have hpl : ps.length ≤ N.length := by have := congrArg List.length S.pre; rw [List.length_take] at this; omega
  have ndP : ps.Nodup := by rw [← S.pre]; exact S.nd.sublist (List.take_sublist _ _)
  have hu : us.length = ps.length := by rw [← r.length, hl]
  have I : Inv (cxC P w K mg base N qual scope f (.ref c') [(p, cc)] A outer s (del H cc)) [] ((start N vs).set ip (some v)) (del H cc) { s with heap := h', toks := s.toks + (ps.zip us).length } := by
    have bs : ∀ b o, base.get? b = some o → s.heap.get? b = some o ∧ del H cc b = none := fun b o e => by
      obtain ⟨q1, q2⟩ := e0.bs b o e
      refine ⟨q1, ?_⟩
      unfold del
      split
      · rfl
      · exact q2
    have frf : ∀ b ∈ frs outer, del H cc b = none := fun b hb => by
      unfold del
      split
      · rfl
      · exact e0.frf b hb
    have noex : ∀ b : Addr, b ∉ ([] : List Addr) := fun b z => by cases z
    refine ⟨⟨e0.mod, S.kind, rfl, rfl, Nat.le_refl _, fun x y c h1 h2 => ?_, fun x hx => ?_, fun x c hx _ => ?_, fun _ => hr.hd, Around.frames_deeper e0.frames, .inr ⟨rfl, rfl⟩, fun b z => absurd z (noex b), bs, e0.bsz, fun b _ _ => noex b, fun b z => absurd z (noex b), e0.funs, frf⟩,
      rfl, e0.bare, Un.kept kp, ⟨_, hn, fun i x u h1 h2 h3 => ?_⟩, fun x c h => ?_, fr, fun x c h => ?_, fun q hq => absurd hq (by simp [cxC]), (hok_del e0.hok hcc).kept kp, ?_⟩
    · rw [(lk1 x c h1).1, (lk1 y c h2).1]
    · rcases hx with hx | hx
      · exact absurd rfl (S.nocell _ (PySem.mem_of_lookup hx))
      · have e : x = p := S.free _ (PySem.mem_of_lookup hx) rfl
        exact ⟨cc, by rw [e]; exact lkp⟩
    · cases hx
    · by_cases z : i = ip
      · subst z
        have ex : x = p := by
          have h1' : N[i]? = some x := h1
          rw [S.at_] at h1'
          exact (Option.some.inj h1').symm
        have hil : i < (start N vs).length := by
          unfold start
          rw [List.length_append, List.length_map, List.length_replicate]
          have := (List.getElem?_eq_some_iff.mp S.at_).1
          omega
        rw [List.getElem?_set_self hil] at h2
        cases h2
        exact ⟨uc, ruc, .inr ⟨.inr (by rw [ex]; exact S.isfree), cc, by rw [ex]; exact lkp, oc, kp _ _ gcc, hoc⟩⟩
      · rw [List.getElem?_set_ne (Ne.symm z)] at h2
        have hi : i < vs.length := by
          unfold start at h2
          by_cases hi : i < vs.length
          · exact hi
          · rw [List.getElem?_append_right (by simpa using hi), List.getElem?_replicate] at h2
            split at h2 <;> cases h2
        have ha : vs[i]? = some u := by
          unfold start at h2
          rw [List.getElem?_append_left (by simpa using hi), List.getElem?_map] at h2
          cases e : vs[i]? with
          | none => rw [e] at h2; cases h2
          | some a => rw [e] at h2; cases h2; rfl
        obtain ⟨u', hu', rv⟩ := r.get ha
        have hp' : ps[i]? = some x := by
          rw [← S.pre, List.getElem?_take_of_lt (by omega)]; exact h1
        exact ⟨u', rv, .inl ⟨S.par x (List.mem_of_getElem? hp'), zip_look ndP hp' hu'⟩⟩
    · rw [(lk1 x c h).2]
      exact ⟨_, oc, kp _ _ gcc, hoc⟩
    · rw [(lk1 x c h).2]
      exact del_same
    · rw [List.length_set]
      unfold start
      show _ = N.length
      rw [List.length_append, List.length_map, List.length_replicate]
      omega
  refine wpAny_mono (ht.h [] _ _ _ _ I hq) (fun fl s' hs => ?_) fun e s' hs => hs.elim
  cases fl with
  | ret u =>
    obtain ⟨v', σ', H', J, rv, rfl, q⟩ := hs
    have un : Un (frs outer) [] (del H cc) (del H cc) s.heap s'.heap := J.base
    have nb : cc ∉ frs outer := fun z => by rw [e0.frf cc z] at hcc; cases hcc
    have gcc' := un.keep cc oc gcc del_same nb (by simp)
    refine ⟨v', H, J.os, J.bare, ⟨fun b o q1 q2 q3 q4 => un.keep b o q1 (by rw [del_ne (fun z => by rw [z, hcc] at q2; cases q2)]; exact q2) q3 q4, fun b o q1 q2 q3 q4 => un.slot b o q1 (by rw [del_ne (fun z => by rw [z, hcc] at q2; cases q2)]; exact q2) q3 q4, fun _ _ _ n _ => n, un.there, fun _ _ q => q, fun _ _ _ q => q, fun b ps q => ⟨#[], by rw [q]; simp⟩⟩, fun a o q => ?_, rv, rfl, q⟩
    by_cases z : a = cc
    · subst z
      rw [hcc] at q
      cases q
      refine ⟨⟨uc, ruc, oc, gcc', hoc⟩, ⟨oc, gcc'⟩, fun h1 h2 x k => ?_⟩
      obtain ⟨u1, a1, o1, a2, a3⟩ := x
      exact ⟨u1, a1, o1, k _ a2, a3⟩
    · have := J.hok a o (by rw [del_ne z]; exact q)
      exact this.stay (fun b u _ r => r) (fun b r => (del_some r).2) fun b xs r => (del_some r).2
  | next =>
    obtain ⟨_, _, _, q⟩ := hs
    exact q.elim
  | brk =>
    obtain ⟨_, _, _, q⟩ := hs
    exact q.elim
  | cont =>
    obtain ⟨_, _, _, q⟩ := hs
    exact q.elim
end
end L2
namespace L2
open PySem PySem.Spec PySem.W PyProof.Rows
def spClo (T : Addr) (ipos : Pos) (g iq : Str) (ip : Arguments) (ib : List Stmt) (isc : Scope) (p : Str) : Sp := fun vs H Q _ => ∃ v, vs = [v] ∧ TabOk T ipos iq H ∧ ∀ ff c' cc H1, H ff = none → H cc = none → SameB T H H1 → TabOk T ipos iq H1 → H1 ff = some (.ext (CloO g iq ip ib isc [(p, cc)] ff c')) → H1 c' = some (.ext (CodeO iq c')) → H1 cc = some (.ext (CelO v cc)) → Q (.ref ff) H1
section
variable {X : Cx} {pins : List (Addr × Obj)} {σ : St} {H : Hp} {s : Shared}
theorem clo_make {g iq : Str} {ip : Arguments} {ib : List Stmt} {isc : Scope} {ipos : Pos} {c T : Addr} {cl : List (Str × Addr)} {fl : Nat} {E : Value → Shared → Prop} {Q : Value → Shared → Prop} (I : Inv X pins σ H s) (hcl : closureFor isc X.env = pure cl) (hcd : X.env.code = .ref c) (hC : CodeHd X.base c T) (hB : X.base.BuiltinsAt X.mg T) (ht : TabOk T ipos iq H)
    (q : ∀ ff c' s1 H1, H ff = none → SameB T H H1 → TabOk T ipos iq H1 → H1 ff = some (.ext (CloO g iq ip ib isc cl ff c')) → H1 c' = some (.ext (CodeO iq c')) → Inv X pins σ H1 s1 → Q (.ref ff) s1) :
    wpAny (model X.prog X.w) X.A (makeFunction g iq ip (.stmts ib) isc X.env [] [] [] ipos fl) Q E s := by
  obtain ⟨ps, hP, ht, hm⟩ := ht
  have hp0 : s.heap.get? T = some (tabObj ps) := I.hok T _ hP
  have hgl : s.heap.Ns mainGlobals X.mg := by
    obtain ⟨o, es, ep, e, r⟩ := I.mod.glob
    exact ⟨o, es, ep, I.bk _ _ e, r⟩
  have hne : mainGlobals ≠ T := fun z => by
    obtain ⟨o, es, ep, e, d, r⟩ := I.mod.glob
    have := (I.bs _ _ e).2
    rw [z, hP] at this
    cases this
  rcases hm with hm | ⟨c', hm, hc'⟩
  · refine makeFunction_K (mg := X.mg) hcl I.ok.glob hgl hcd (hC.keeps I.bk) hp0 ht hm hne (hB.keeps I.bk) fun c' ctv doc h' tk xb l1 l2 cr gP => ?_
    have fc : H c' = none := I.hok.fresh l1
    have l3 : s.heap.objs.size ≤ h'.objs.size := Nat.le_trans l1 (Nat.le_of_lt l2)
    have ff : H h'.objs.size = none := I.hok.fresh l3
    have n1 : c' ≠ h'.objs.size := Nat.ne_of_lt l2
    have pc : T ≠ c' := fun z => by rw [z, fc] at hP; cases hP
    have pf : T ≠ h'.objs.size := fun z => by rw [z, ff] at hP; cases hP
    generalize hps : ps ++ #[rawInt ↑ipos.line, rawInt ↑ipos.col, Value.ref c'] = ps' at gP
    generalize ho : fnMade g iq ip ib isc cl doc ((X.mg (Str.ofString "__name__")).getD Value.none) c' ctv = ob
    have gf : (h'.push ob).get? h'.objs.size = some ob := Heap.get?_push_size _ (by rw [← ho]; rfl)
    let H' : Hp := upd (upd (upd H T (.tbl ps')) c' (.ext (CodeO iq c'))) h'.objs.size (.ext (CloO g iq ip ib isc cl h'.objs.size c'))
    have eP : H' T = some (.tbl ps') := by show upd _ _ _ _ = _; rw [upd_ne pf, upd_ne pc, upd_same]
    have ec : H' c' = some (.ext (CodeO iq c')) := by show upd _ _ _ _ = _; rw [upd_ne n1, upd_same]
    have ef : H' h'.objs.size = some (.ext (CloO g iq ip ib isc cl h'.objs.size c')) := upd_same
    have eo : ∀ b, b ≠ T → b ≠ c' → b ≠ h'.objs.size → H' b = H b := fun b a1 a2 a3 => by show upd _ _ _ _ = _; rw [upd_ne a3, upd_ne a2, upd_ne a1]
    have ek : ∀ b o, H b = some o → b ≠ T → H' b = some o := fun b o e a1 => by
      rw [eo b a1 (fun z => by rw [z, fc] at e; cases e) (fun z => by rw [z, ff] at e; cases e)]; exact e
    have kp : ∀ b o, b ≠ T → s.heap.get? b = some o → (h'.push ob).get? b = some o := fun b o a e => Heap.get?_push_of_some _ (xb b o a e)
    have un : Un X.fs [] H H' s.heap (h'.push ob) := by
      refine ⟨fun b o e n _ _ => kp b o (fun z => by rw [z, hP] at n; cases n) e, fun b o e n _ _ => ⟨o.slots, kp b o (fun z => by rw [z, hP] at n; cases n) e⟩, fun b o e n _ => ?_, fun b o e _ => ?_, fun b xs e => ek b _ e (fun z => by rw [z, hP] at e; cases e), fun b o u e => ek b _ e (fun z => by rw [z, hP] at e; cases e), fun b qs e => ?_⟩
      · have lb := Heap.lt_size e
        rw [eo b (fun z => by rw [z, hP] at n; cases n) (Nat.ne_of_lt (Nat.lt_of_lt_of_le lb l1)) (Nat.ne_of_lt (Nat.lt_of_lt_of_le lb l3))]
        exact n
      · by_cases z : b = T
        · exact ⟨_, by rw [z]; exact Heap.get?_push_of_some _ gP⟩
        · exact ⟨o, kp b o z e⟩
      · by_cases z : b = T
        · rw [z, hP] at e
          cases e
          exact ⟨#[rawInt ↑ipos.line, rawInt ↑ipos.col, Value.ref c'], by rw [z, eP, hps]⟩
        · exact ⟨#[], by rw [ek b _ e z, Array.append_empty]⟩
    have hok : HOk X.prog X.w H' (h'.push ob) := fun b o e => by
      by_cases z1 : b = h'.objs.size
      · rw [z1, ef] at e
        cases e
        rw [z1]
        refine ⟨⟨_, _, _, by rw [ho]; exact gf⟩, ⟨_, gf⟩, fun h1 h2 x k => ?_⟩
        obtain ⟨dc, pm, ctv, e⟩ := x
        exact ⟨dc, pm, ctv, k _ e⟩
      by_cases z2 : b = c'
      · rw [z2, ec] at e
        cases e
        rw [z2]
        obtain ⟨c0, o, vs, t, e1, e2, e3, e4⟩ := cr
        cases e1
        refine ⟨⟨c', o, vs, t, rfl, Heap.get?_push_of_some _ e2, e3, e4⟩, ⟨o, Heap.get?_push_of_some _ e2⟩, fun h1 h2 x k => ?_⟩
        obtain ⟨c0, o, vs, t, e1, e2, e3, e4⟩ := x
        cases e1
        exact ⟨c', o, vs, t, rfl, k _ e2, e3, e4⟩
      by_cases z3 : b = T
      · rw [z3, eP] at e
        cases e
        rw [z3]
        exact Heap.get?_push_of_some _ gP
      · rw [eo b z3 z2 z1] at e
        refine (I.hok b o e).stay (fun c v hc r => kp c v (fun z => ?_) r) (fun c r => ek c _ r (fun z => by rw [z, hP] at r; cases r)) fun c xs r => ek c _ r (fun z => by rw [z, hP] at r; cases r)
        rcases hc with hc | hc
        · exact z3 (hc.symm.trans z)
        · rw [z, hP] at hc; cases hc
    refine q h'.objs.size c' _ H' ff ek ⟨_, eP, ?_, .inr ⟨c', ?_, ec⟩⟩ ef ec (I.un un hok)
    · rw [← hps, Array.toList_append]; exact TriplesOk_snoc _ _ _ _ ht
    · rw [← hps, Array.toList_append]; exact codeAmong_snoc _ ht hm
  · refine makeFunction_hit (mg := X.mg) hcl I.ok.glob hgl hcd (hC.keeps I.bk) hp0 ht hm (hB.keeps I.bk) fun ctv doc h' tk kp l3 => ?_
    have ff : H h'.objs.size = none := I.hok.fresh l3
    have s1 := same_new (o := .ext (CloO g iq ip ib isc cl h'.objs.size c')) ff
    refine q h'.objs.size c' _ _ ff (SameB.of s1) (TabOk.same ⟨ps, hP, ht, .inr ⟨c', hm, hc'⟩⟩ s1) upd_same (s1 _ _ hc') (I.laid (a := h'.objs.size) (o := .ext (CloO g iq ip ib isc cl h'.objs.size c')) (t' := tk) (fun b u e => Heap.get?_push_of_some _ (kp b u e)) l3 ?_)
    refine ⟨⟨_, _, _, Heap.get?_push_size _ rfl⟩, ⟨_, Heap.get?_push_size _ rfl⟩, fun h1 h2 x k => ?_⟩
    obtain ⟨dc, pm, ctv, e⟩ := x
    exact ⟨dc, pm, ctv, k _ e⟩
end
end L2
namespace L2
open PySem PySem.Spec PySem.W PyProof.Rows
section
variable {P : Program} {w : World} {K : PySem.W.Frag} {mg : Str → Option Value} {base : Heap}
theorem clo_body {qual g p iq : Str} {st : Stmt} {f c T cc : Addr} {ip : Arguments} {ib : List Stmt} {isc : Scope} {ipos np rpos : Pos} {A : Around} {outer : List Env} {s s1 : Shared} {H : Hp} {E : XK} {Q : VK} {v : V} {cdv : Value} (hpc : (defScope st).names.lookup p = some .cell) (hgl : (defScope st).names.lookup g = some .local) (hpg : p ≠ g)
    (hb : defBody st = [.FunctionDef g ip ib [] none [] isc none g ipos, .Return (some (.Name g np)) rpos]) (hd0 : ip.defaults = []) (hk0 : ip.kw_defaults = []) (ha : ∀ env, annTrees ip none env = []) (hcl : ∀ env cc, env.cells.lookup p = some cc → closureFor isc env = pure [(p, cc)])
    (hq : ∀ L cd, qualnameIn (envOfC qual (defScope st) L f cd) g g = iq) (hgd : (g == ("__debug__" : Str)) = false) (hfc : cdv = .ref c) (hC : CodeHd base c T) (hB : base.BuiltinsAt mg T)
    (e0 : Env0 P w K mg base A outer s H) (hcc : (cellsFrom (s.heap.objs.size + 1) (defScope st).names []).lookup p = some cc) (above : s.heap.objs.size < cc) (I : Inv (cxOf CX0 P w K mg base [p, g] qual (defScope st) f cdv A outer s H E) [] (start [p, g] [v]) H s1) (ht : TabOk T ipos iq H)
    (q : ∀ ff c' cc H1, H ff = none → H cc = none → SameB T H H1 → TabOk T ipos iq H1 → H1 ff = some (.ext (CloO g iq ip ib isc [(p, cc)] ff c')) → H1 c' = some (.ext (CodeO iq c')) → H1 cc = some (.ext (CelO v cc)) → Q (.ref ff) H1) :
    wpAny (model P w) (A.deeper (envOfC qual (defScope st) s.heap.objs.size f cdv)) (execs (defBody st) (envOfC qual (defScope st) s.heap.objs.size f cdv)) (fun fl s' => ∃ u, fl = .ret u ∧ CE outer P w H s Q u s') (fun _ _ => False) s1 := by
  rw [hb]
  refine wpAny_execs_cons (nestDef_K hd0 hk0 (ha _) ?_)
  rw [hq]
  refine clo_make (X := cxOf CX0 P w K mg base [p, g] qual (defScope st) f cdv A outer s H E) I (hcl _ cc hcc) hfc hC hB ht fun ff c' s2 H2 h1 h2 h3 h4 h5 I2 => ?_
  refine store_ok I2 (i := 1) (x := g) (v := .ref ff) (by simpa [cxOf] using hpg) rfl (.inl hgl) rfl (fun s3 I3 => ?_) (.inr hgl)
  refine wpAny_execs_cons ?_
  obtain ⟨m, hn, hl⟩ := I3.loc
  obtain ⟨u, ru, lu⟩ := hl 1 g (.ref ff) rfl rfl (.inl hgl)
  obtain ⟨u0, ru0, lu0⟩ := hl 0 p v rfl rfl (.inr (.inl hpc))
  cases (show u = Value.ref ff from ru)
  have lg : m g = some (.ref ff) := by
    rcases lu with ⟨_, hm⟩ | ⟨hk, _⟩
    · exact hm
    · rcases hk with hk | hk
      · rw [show (cxOf CX0 P w K mg base [p, g] qual (defScope st) f cdv A outer s H E).env.kindOf g = some .local from hgl] at hk; cases hk
      · rw [show (cxOf CX0 P w K mg base [p, g] qual (defScope st) f cdv A outer s H E).env.kindOf g = some .local from hgl] at hk; cases hk
  have lc : s3.heap.IsCell cc (some u0) := by
    rcases lu0 with ⟨hk, _⟩ | ⟨_, c2, hc2, hcell⟩
    · rw [show (cxOf CX0 P w K mg base [p, g] qual (defScope st) f cdv A outer s H E).env.kindOf p = some .cell from hpc] at hk; cases hk
    · have hc2' : (cellsFrom (s.heap.objs.size + 1) (defScope st).names []).lookup p = some c2 := hc2
      rw [hcc] at hc2'
      cases hc2'
      exact hcell
  refine wpAny_Return_some (wpAny_Name (wpAny_loadName_local I3.ok.kind hgl hn lg ?_) hgd)
  have hcH : H cc = none := e0.hok.fresh (Nat.le_of_lt above)
  have hc2 : H2 cc = none := I2.freeC p cc hcc
  have un : Un (frs outer) [] H H2 s.heap s3.heap := I3.base
  obtain ⟨oc, goc, hoc⟩ := lc
  have s2' := same_new (o := .ext (CelO v cc)) hc2
  refine ⟨.ref ff, rfl, .ref ff, upd H2 cc (.ext (CelO v cc)), I3.os, I3.bare, ⟨un.keep, un.slot, fun b o e n x => ?_, un.there, fun b xs e => s2' _ _ (un.tups b xs e), fun b o u e => s2' _ _ (un.frzs b o u e), fun b qs e => ?_⟩, fun a o e => ?_, rfl, ?_⟩
  · rw [upd_ne (fun z => by rw [z] at e; exact absurd (Heap.lt_size e) (Nat.lt_asymm above))]
    exact un.free b o e n x
  · obtain ⟨more, e⟩ := un.tbls b qs e
    exact ⟨more, s2' _ _ e⟩
  · by_cases z : a = cc
    · subst z
      rw [upd_same] at e
      cases e
      refine ⟨⟨u0, ru0, oc, goc, hoc⟩, ⟨oc, goc⟩, fun h1 h2 x k => ?_⟩
      obtain ⟨u1, a1, o1, a2, a3⟩ := x
      exact ⟨u1, a1, o1, k _ a2, a3⟩
    · rw [upd_ne z] at e
      exact (I3.hok a o e).stay (fun b u _ r => r) (fun b r => s2' _ _ r) fun b xs r => s2' _ _ r
  · exact q ff c' cc _ h1 hcH (h2.trans (.of s2')) (h3.same s2') (s2' _ _ h4) (s2' _ _ h5) upd_same
theorem clo_fn {x qual g p iq : Str} {st : Stmt} {f c T : Addr} {fd : FuncData} {k : Nat} {ip : Arguments} {ib : List Stmt} {isc : Scope} {ipos np rpos : Pos} (F : Fun K x qual st f fd) (S : FnScope [p, g] [p] (defScope st)) (hpc : (defScope st).names.lookup p = some .cell) (hgl : (defScope st).names.lookup g = some .local) (hpg : p ≠ g)
    (hb : defBody st = [.FunctionDef g ip ib [] none [] isc none g ipos, .Return (some (.Name g np)) rpos]) (hd0 : ip.defaults = []) (hk0 : ip.kw_defaults = []) (ha : ∀ env, annTrees ip none env = []) (hcl : ∀ env cc, env.cells.lookup p = some cc → closureFor isc env = pure [(p, cc)])
    (hq : ∀ L cd, qualnameIn (envOfC qual (defScope st) L f cd) g g = iq) (hgd : (g == ("__debug__" : Str)) = false) (hfc : fd.code = .ref c) (hC : CodeHd base c T) (hB : base.BuiltinsAt mg T) :
    FnOk P w K mg base CX0 (k + 1) f fd [p] (spClo T ipos g iq ip ib isc p) := by
  obtain ⟨oc, od, kV, doc, pm, an, cdv, ct, osl, rfl, lk, hcd⟩ := F.ex
  refine ⟨fun vs H Q E h => by obtain ⟨v, rfl, _⟩ := h; rfl, fun A outer s H args us vs Q E hr e0 hbi r hsp => ?_⟩
  obtain ⟨v, rfl, ht, q⟩ := hsp
  have KX : K.In s.heap := e0.mod.kin.keeps fun b o e => (e0.bs b o e).1
  have lim : s.heap.NoLimit := e0.mod.nolimit.keeps fun b o e => (e0.bs b o e).1
  have hkind : ∀ y ∈ [p].zip us, (defScope st).names.lookup y.1 = some .local ∨ ((defScope st).names.lookup y.1 = some .cell ∧ ((cellsFrom (s.heap.objs.size + 1) (defScope st).names []).lookup y.1).isSome = true) := fun ⟨n, v⟩ hy => by
    rcases S.par n (List.of_mem_zip hy).1 with q | q
    · exact .inl q
    · exact .inr ⟨q, PySem.W.cellsFrom_some _ _ _ (.inl q)⟩
  refine codeAny_call_function hr.depth (KX _ _ lk) rfl S.co S.gen rfl (PySem.W.codeRec_of KX hcd) (hbi _ _ _ _ ?_)
  refine wpAny_newFunctionEnv_cells S.kind hkind fun env he s1 xc => ?_
  subst he
  refine ⟨lim.keeps xc.toInCall.keep, codeAny_func ?_⟩
  have I : Inv (cxOf CX0 P w K mg base [p, g] qual (defScope st) f cdv A outer s H E) [] (start [p, g] [v]) H s1 := inv_start S hr.hd e0 rfl r xc
  obtain ⟨cc, hcc⟩ := cell_has (n := s.heap.objs.size + 1) hpc
  have above : s.heap.objs.size < cc := xc.above p cc (PySem.mem_of_lookup hcc)
  refine wpAny_mono (clo_body hpc hgl hpg hb hd0 hk0 ha hcl hq hgd hfc hC hB e0 hcc above I ht q) (fun fl s' h => ?_) fun e s' h => h.elim
  obtain ⟨u, rfl, h⟩ := h
  exact h
end
end L2
namespace L2
open PySem PySem.Spec PySem.W PyProof.Rows
def RunsV (P : Program) (w : World) (K : PySem.W.Frag) (mg : Str → Option Value) (base : Heap) (k : Nat) (ff : Addr) (vs : List V) (H : Hp) (Q : VK) : Prop :=
  ∀ (A : Around) (outer : List Env) (s : Shared) (us : List Value), Room k A → Env0 P w K mg base A outer s H → Vals vs us → wpAny (model P w) A (call (.ref ff) us) (CE outer P w H s Q) (fun _ _ => False) s
def IsClo (H : Hp) (ff : Addr) : Prop := ∃ g iq ip ib isc cl c', H ff = some (.ext (CloO g iq ip ib isc cl ff c'))
def tCallV (P : Program) (w : World) (K : PySem.W.Frag) (mg : Str → Option Value) (base : Heap) (k : Nat) (tc : TE) (t : TA) : TE := fun σ H Q => tc σ H fun fv H1 => ∃ ff, fv = .ref ff ∧ IsClo H1 ff ∧ t σ H1 fun vs H2 => IsClo H2 ff ∧ RunsV P w K mg base k ff vs H2 Q
section
variable {X : Cx} {P : Program} {w : World} {K : PySem.W.Frag} {mg : Str → Option Value} {base : Heap} {callee e : Expr} {es : List Expr} {tc : TE} {t : TA} {pos : Pos} {k : Nat}
theorem clo_at {pins : List (Addr × Obj)} {σ : St} {H : Hp} {s : Shared} {ff : Addr} (I : Inv X pins σ H s) (h : IsClo H ff) : FnAt ff s.heap := by
  obtain ⟨g, iq, ip, ib, isc, cl, c', h⟩ := h
  obtain ⟨doc, pm, ctv, e⟩ := (I.hok ff _ h).1
  exact ⟨_, _, _, _, e⟩
theorem pe_callV (hP : X.prog = P) (hw : X.w = w) (hK : X.K = K) (hm : X.mg = mg) (hb : X.base = base) (hr : Room k X.A) (hc : PE X callee tc) (ha : PA X (e :: es) t)
    (hev : eval (.Call callee (e :: es) [] pos) X.env = (eval callee X.env >>= fun f => callWith pos f [] (backTo pos (starEach (e :: es) X.env)) (backToKw pos (keywordEach [] X.env))) := by rfl)
    (he : starEach (e :: es) X.env = (false, eval e X.env) :: starEach es X.env := by rfl) (hpl : (backTo pos (starEach es X.env)).any (·.1) = false := by rfl) :
    PE X (.Call callee (e :: es) [] pos) (tCallV P w K mg base k tc t) := by
  subst hP hw hK hm hb
  intro pins s σ H Q I h
  rw [hev]
  refine wpAny_bind (thn (hc pins s σ H _ I h) fun f s1 ⟨fv, H1, I1, rf, ff, e1, h1, q⟩ => ?_)
  subst e1
  cases (show f = Value.ref ff from rf)
  refine callWith_F (clo_at I1 h1) (thn (ha pos pins s1 σ H1 _ I1 q) fun us s2 ⟨vs, H2, I2, r, h2, q2⟩ => ⟨clo_at I2 h2, ?_⟩) he hpl
  exact wpAny_mono (q2 X.A X.stack s2 us hr I2.env0 r) (fun u s3 hce => I2.after hce) fun _ _ z => z.elim
theorem b_callV (hP : X.prog = P) (hw : X.w = w) (hK : X.K = K) (hm : X.mg = mg) (hb : X.base = base) (hr : Room k X.A) (hc : BE X callee tc) (ha : BA X (e :: es) t)
    (hev : eval (.Call callee (e :: es) [] pos) X.env = (eval callee X.env >>= fun f => callWith pos f [] (backTo pos (starEach (e :: es) X.env)) (backToKw pos (keywordEach [] X.env))) := by rfl)
    (h1 : isStar e = false := by rfl) (h2 : noStar es = true := by rfl) :
    BE X (.Call callee (e :: es) [] pos) (tCallV P w K mg base k tc t) := ⟨pe_callV hP hw hK hm hb hr hc.h ha.h hev (star_cons h1) (star_any h2)⟩
instance zc1 {σ : St} {H : Hp} {Q : VK} : RdS (tCallV P w K mg base k tc t σ H Q) (tc σ H fun fv H1 => ∃ ff, fv = .ref ff ∧ IsClo H1 ff ∧ t σ H1 fun vs H2 => IsClo H2 ff ∧ RunsV P w K mg base k ff vs H2 Q) := ⟨id⟩
theorem runs_clo {name qual : Str} {params : Arguments} {body : List Stmt} {scope : Scope} {N ps : List Str} {p : Str} {ip : Nat} {f c' cc : Addr} {H : Hp} {vs : List V} {v : V} {Q : VK} {R : V → Prop} (S : CloScope N ps p ip scope) (hf : H f = some (.ext (CloO name qual params body scope [(p, cc)] f c'))) (hc : H c' = some (.ext (CodeO qual c'))) (hcc : H cc = some (.ext (CelO v cc)))
    (hb : ∀ us doc pm ctv, us.length = ps.length → bindArgs (fnX name qual params body scope [(p, cc)] .none .none doc pm none (.ref c') ctv) ⟨us, []⟩ = pure (ps.zip us)) (hl : vs.length = ps.length)
    (hbody : ∀ (A : Around) (outer : List Env) (s : Shared), Room k (A.deeper (envX qual scope s.heap.objs.size f (.ref c') [(p, cc)])) → ∃ t, BSs (cxC P w K mg base N qual scope f (.ref c') [(p, cc)] A outer s (del H cc)) body t ∧
      t { nx := fun _ _ => False, rt := fun v' H' => H' = del H cc ∧ R v' } ((start N vs).set ip (some v)) (del H cc)) (q : ∀ v', R v' → Q v' H) : RunsV P w K mg base (k + 1) f vs H Q := by
  intro A outer s us hr e0 r
  refine wpAny_mono (clo_run (k := k) S hr e0 hf hc hcc (fun doc pm ctv => hb us doc pm ctv (by rw [← r.length, hl])) hl r fun hr' => hbody A outer s hr') (fun u s' h => ?_) fun _ _ z => z
  obtain ⟨v', H', a1, a2, a3, a4, a5, rfl, a6⟩ := h
  exact ⟨v', H', a1, a2, a3, a4, a5, q v' a6⟩
end
end L2
namespace T13
open PySem L2
abbrev tabP : Addr := 17
def top (i : Nat) : Stmt := PySem.Challenge.pw_tierstore_k13_whole_sieves.main.body.getD i (.Pass ⟨0, 0, 0, 0⟩)
abbrev s_probe : Stmt := top 4
abbrev s_places_of : Stmt := top 5
abbrev s_sieve_of : Stmt := top 6
abbrev s_may_have : Stmt := top 7
abbrev s__law_whole : Stmt := top 9
abbrev s__law_cell_at : Stmt := top 10
abbrev s__law_mixed : Stmt := top 11
abbrev s__law_word : Stmt := top 12
abbrev s__law_place : Stmt := top 13
abbrev s__law_keys : Stmt := top 14
abbrev s__law_unlike : Stmt := top 15
abbrev s_law : Stmt := top 16
structure Txt (K : PySem.W.Frag) (mg : Str → Option Value) : Prop where
  f_probe : HasFn K mg "probe" s_probe ["factor"]
  f_places_of : HasFn K mg "places_of" s_places_of ["key", "size"]
  f_sieve_of : HasFn K mg "sieve_of" s_sieve_of ["keys"]
  f_may_have : HasFn K mg "may_have" s_may_have ["sieve", "key"]
  f__law_whole : HasFn K mg "_law_whole" s__law_whole ["_law_found"]
  f__law_cell_at : HasFn K mg "_law_cell_at" s__law_cell_at ["_law_script", "_law_k"]
  f__law_mixed : HasFn K mg "_law_mixed" s__law_mixed ["_law_cell", "_law_k"]
  f__law_word : HasFn K mg "_law_word" s__law_word ["_law_cell", "_law_least", "_law_most"]
  f__law_place : HasFn K mg "_law_place" s__law_place ["_law_key", "_law_size", "_law_factor"]
  f__law_keys : HasFn K mg "_law_keys" s__law_keys ["_law_script"]
  f__law_unlike : HasFn K mg "_law_unlike" s__law_unlike ["_law_keys_here"]
  c_probe : ∃ f fd cd, Fn K mg "probe" s_probe ["factor"] f fd ∧ fd.code = .ref cd ∧ PySem.W.codeHdIn K cd tabP = true
  g_FACTORS : ∃ a, (∃ u, mg "FACTORS" = some u ∧ RelV (.ref a) u) ∧ ∀ H, SqT K H a [.int 31, .int 37, .int 41]
  g_FIRST_NUMBER : ∃ u, mg "FIRST_NUMBER" = some u ∧ RelV (.int 7) u
  g_MODULUS : ∃ u, mg "MODULUS" = some u ∧ RelV (.int 1000003) u
  b_all : mg "all" = none
  b_bool : mg "bool" = none
  b_int : mg "int" = none
  b_isinstance : mg "isinstance" = none
  b_key : mg "key" = none
  b_len : mg "len" = none
  b_list : mg "list" = none
  b_max : mg "max" = none
  b_min : mg "min" = none
  b_ord : mg "ord" = none
  b_place_of : mg "place_of" = none
  b_range : mg "range" = none
  b_set : mg "set" = none
  b_size : mg "size" = none
  b_str : mg "str" = none
  b_sum : mg "sum" = none
  b_tuple : mg "tuple" = none
local macro_rules | `(tactic| lcg_src) => `(tactic| first | with_reducible assumption | ((with_reducible refine' Same.get ?s ?e); (case s => with_reducible assumption); (case e => lcg_src)))
local macro_rules | `(tactic| lcg_sub) => `(tactic| first | with_reducible assumption | with_reducible exact Same.refl _ | ((with_reducible refine' Same.tr ?s ?e); (case s => with_reducible assumption); (case e => lcg_sub)))
local macro_rules | `(tactic| keq_rows) => `(tactic| first | with_reducible assumption | with_reducible exact Rep.int' | with_reducible exact Rep.str' | with_reducible exact Rep.bl' | with_reducible exact Rep.non' | ((with_reducible refine' Rep.same ?s ?e); (case s => with_reducible assumption); (case e => keq_rows)) | ((with_reducible refine' Rep.mkT ?c ?_); (case c => lcg_src); keq_hits) | ((with_reducible refine' Rep.mkL ?c ?_); (case c => lcg_src); keq_hits) | ((with_reducible refine' Rep.mkD ?c); (case c => lcg_src)))
local macro_rules | `(tactic| keq_hits) => `(tactic| first | with_reducible assumption | with_reducible exact Reps.nil' | ((with_reducible refine' Reps.cons' ?c ?_); (case c => keq_rows); keq_hits) | ((with_reducible refine' Reps.same ?s ?e); (case s => with_reducible assumption); (case e => keq_hits)))
local macro_rules | `(tactic| tlg_ne) => `(tactic| first | with_reducible assumption | ((with_reducible refine' SqL.of ?c); (case c => lcg_src)) | ((with_reducible refine' SqT.of ?c); (case c => lcg_src)) | ((with_reducible refine' SqL.same ?s ?e); (case s => with_reducible assumption); (case e => tlg_ne)))
local macro_rules | `(tactic| kpc_turns) => `(tactic| first | decide | omega | (constructor <;> first | decide | omega))
local macro_rules | `(tactic| kas_types) => `(tactic| simp only [cxK, cxK', compK, start_cc, start_cn, start_nn])
local macro_rules | `(tactic| kpt_turns) => `(tactic| first
  | refine rd_go ?_
  | ((with_reducible refine' rd_mod ?c ?_); (case c => kpc_turns))
  | ((with_reducible refine' rd_fdiv ?c ?_); (case c => kpc_turns))
  | ((with_reducible refine' rd_mulI ?c ?_); (case c => first | exact .inl (by kpc_turns) | exact .inr (by kpc_turns)))
  | ((with_reducible refine' rd_mkT ?c ?_); (case c => (simp only [List.length_cons, List.length_nil]; decide)); intro _ _ _ _)
  | ((with_reducible refine' rd_mkL ?c ?_); (case c => (simp only [List.length_cons, List.length_nil]; decide)); intro _ _ _ _ _)
  | ((with_reducible refine' rd_ixT ?c ?d ?_); (case c => tlg_ne); (case d => exact rfl))
  | ((with_reducible refine' rd_ixL ?c ?d ?_); (case c => tlg_ne); (case d => exact rfl))
  | ((with_reducible refine' rd_isT ?c ?_); (case c => lcg_src))
  | ((with_reducible refine' rd_isL ?c ?_); (case c => lcg_src))
  | ((with_reducible refine' rd_isD ?c ?_); (case c => lcg_src))
  | ((with_reducible refine' rd_lenT ?c ?_); (case c => tlg_ne))
  | ((with_reducible refine' rd_lenL ?c ?_); (case c => tlg_ne))
  | ((with_reducible refine' rd_lenS ?c ?_); (case c => first | assumption | (show _ ≤ 16777216; decide) | omega))
  | ((with_reducible refine' rd_slT ?c ?d ?_); (case c => tlg_ne); (case d => simp [HT.sIx]; done); intro _ _ _ h; (simp [cutV, HT.sIx] at h))
  | ((with_reducible refine' rd_bmL ?c ?_); (case c => lcg_src))
  | ((with_reducible refine' rd_shr ?c ?_); (case c => omega))
  | ((with_reducible refine' rd_dnew ?_); intro _ _ _ _ _)
  | ((with_reducible refine' rd_pow ?c ?_); (case c => kpc_turns))
  | ((with_reducible refine' rd_exL ?c ?_); (case c => tlg_ne))
  | ((with_reducible refine' rd_exT ?c ?_); (case c => tlg_ne))
  | ((with_reducible refine' rd_exr1 ?c ?_); (case c => kpc_turns))
  | ((with_reducible refine' rd_exr2 ?c ?_); (case c => refine ⟨?_, ?_, ?_, ?_⟩ <;> first | decide | omega))
  | ((with_reducible refine' rd_gTup ?c ?d ?_); (case c => tlg_ne); (case d => exact rfl))
  | ((with_reducible refine' rd_listL ?c ?_); (case c => tlg_ne); intro _ _ _ _ _)
  | ((with_reducible refine' rd_listT ?c ?_); (case c => tlg_ne); intro _ _ _ _ _)
  | ((with_reducible refine' rd_addL ?c ?d ?e ?_); (case c => lcg_src); (case d => lcg_src); (case e => first | (simp only [List.length_cons, List.length_nil]; decide) | (simp only [List.length_cons, List.length_nil, List.length_append, sizeLine_eq]; omega)); intro _ _ _ _ h; (try simp only [List.cons_append, List.nil_append] at h))
  | ((with_reducible refine' rd_addT ?c ?d ?f ?e ?_); (case c => lcg_src); (case d => lcg_src); (case f => (intro h; cases h)); (case e => first | (simp only [List.length_cons, List.length_nil]; decide) | (simp only [List.length_cons, List.length_nil, List.length_append, sizeLine_eq]; omega)); intro _ _ _ h; (try simp only [List.cons_append, List.nil_append] at h)))
local macro_rules | `(tactic| lcg_off) => `(tactic| repeat kpt_turns)
local macro_rules | `(tactic| kaf_pre) => `(tactic| ((with_reducible refine' rd_menu ?c ?a ?b ?_); (case c => tlg_ne); (case a => first | exact Int.emod_nonneg _ (by decide) | omega); (case b => first | exact Int.emod_lt_of_pos _ (by decide) | (simp only [List.length_cons, List.length_nil]; omega))))
local macro_rules | `(tactic| kaf_suf) => `(tactic| ((with_reducible refine' rd_pick ?c ?a ?b ?_); (case c => tlg_ne); (case a => first | exact Int.emod_nonneg _ (by decide) | omega); (case b => first | exact Int.emod_lt_of_pos _ (by decide) | (simp only [List.length_cons, List.length_nil]; omega))))
section
variable {P : Program} {w : World} {K : PySem.W.Frag} {mg : Str → Option Value} {base : Heap}
def spCell (K : PySem.W.Frag) : Sp := fun vs H Q _ => ∃ (a : Addr) (ns : List Int) (k : Nat), vs = [.ref a, .int k] ∧ SqL K H a (ns.map V.int) ∧ Q (.int (ns.getD k 0)) H
theorem sc__law_cell_at : FnScope ["_law_script", "_law_k"] ["_law_script", "_law_k"] (defScope s__law_cell_at) := ⟨rfl, rfl, rfl, by decide +kernel, rfl, by decide +kernel, by decide +kernel⟩
theorem ok__law_cell_at (T : Txt K mg) {f : Addr} {fd : FuncData} (N : Fn K mg "_law_cell_at" s__law_cell_at ["_law_script", "_law_k"] f fd) : FnOk P w K mg base CX0 (1) f fd ["_law_script", "_law_k"] (spCell K) := by
  refine N.fu.okB sc__law_cell_at (fun vs H Q E h => ?_) (fun cdv A outer s H vs Q E hr h => ?_)
  · obtain ⟨a, ns, k, rfl, _⟩ := h
    rfl
  · obtain ⟨a, ns, k, rfl, hS, q⟩ := h
    refine ⟨_, (bss_cons (bs_if (bt_cmp o_lt (bv 1) (b_b c_len T.b_len (by kernel_rfl) (ba_c (bv 0) ba_nil rfl)) (nomark _))
      (bss_one (bs_ret (b_ix ix_seq (bv 0) (bv 1) (fun _ _ => rfl))))
      bss_nil)
    (bss_one (bs_ret b_int))), ?_⟩
    kas_types
    lcg_off
    refine ite_dec (fun h1 => ?_) (fun h1 => ?_)
    · rw [List.length_map] at h1
      have hk : k < ns.length := by omega
      lcg_off
      refine rd_ixL hS (atI_nat (v := .int (ns.getD k 0)) ?_) q
      rw [List.getElem?_map, List.getElem?_eq_getElem hk, List.getD_eq_getElem?_getD, List.getElem?_eq_getElem hk]
      rfl
    · rw [List.length_map] at h1
      have e : ns.getD k 0 = 0 := by
        rw [List.getD_eq_getElem?_getD, List.getElem?_eq_none (by omega)]
        rfl
      rw [e] at q
      lcg_off
      exact q
theorem cell_use {K : PySem.W.Frag} {H : Hp} {Q : VK} {E : XK} {a : Addr} {ns : List Int} {i : Int} {k : Nat} (hS : SqL K H a (ns.map V.int)) (hi : i = (k : Int)) (q : Q (.int (ns.getD k 0)) H) : spCell K [.ref a, .int i] H Q E := ⟨a, ns, k, by rw [hi], hS, q⟩
def mixed (c k : Int) : Int := ((c + 7919 * k) * 48271 % 2147483647) * ((c + 7919 * k) * 48271 % 2147483647 % 65537 + k + 1) % 2147483647
theorem mixed_bound (c k : Int) : 0 ≤ mixed c k ∧ mixed c k < 2147483647 := by
  unfold mixed
  exact ⟨Int.emod_nonneg _ (by decide), Int.emod_lt_of_pos _ (by decide)⟩
def spMixed : Sp := fun vs H Q _ => ∃ (c k : Int), vs = [.int c, .int k] ∧ Q (.int (mixed c k)) H
theorem sc__law_mixed : FnScope ["_law_cell", "_law_k", "_law_mixed_here"] ["_law_cell", "_law_k"] (defScope s__law_mixed) := ⟨rfl, rfl, rfl, by decide +kernel, rfl, by decide +kernel, by decide +kernel⟩
theorem ok__law_mixed (T : Txt K mg) {f : Addr} {fd : FuncData} (N : Fn K mg "_law_mixed" s__law_mixed ["_law_cell", "_law_k"] f fd) : FnOk P w K mg base CX0 (1) f fd ["_law_cell", "_law_k"] (spMixed) := by
  refine N.fu.okB sc__law_mixed (fun vs H Q E h => ?_) (fun cdv A outer s H vs Q E hr h => ?_)
  · obtain ⟨c, k, rfl, _⟩ := h
    rfl
  · obtain ⟨c, k, rfl, q⟩ := h
    refine ⟨_, (bss_cons (bs_set (i := 2) sc__law_mixed.nd rfl (by first | exact Or.inl rfl | exact Or.inr rfl) (b_op op_mod (b_op o_mul (b_op o_add (bv 0) (b_op o_mul b_int (bv 1))) b_int) b_int))
    (bss_one (bs_ret (b_op op_mod (b_op o_mul (bv 2) (b_op o_add (b_op o_add (b_op op_mod (bv 2) b_int) (bv 1)) b_int)) b_int)))), ?_⟩
    kas_types
    lcg_off
    exact q
theorem mixed_use {H : Hp} {Q : VK} {E : XK} {c k : Int} (q : Q (.int (mixed c k)) H) : spMixed [.int c, .int k] H Q E := ⟨c, k, rfl, q⟩
def spWord : Sp := fun vs H Q _ => ∃ (c lo hi : Int), vs = [.int c, .int lo, .int hi] ∧ 0 ≤ lo ∧ lo ≤ hi ∧ hi ≤ 500 ∧ ∀ z : Str, (z.length : Int) = lo + c % (hi - lo + 1) → z.cps.toList.all okSign = true → Q (.str z) H
def someSigns : Str := " !\"#$&'()*+,-./0123456789:;<=>?@ABCDEFGHIJKLMNOPQRSTUVWXYZ[\\]^_`abcdefghijklmnopqrstuvwxyz{|}~"
theorem some_len : someSigns.length = 94 := by decide +kernel
theorem some_ok : someSigns.cps.toList.all okSign = true := by decide +kernel
theorem sc__law_word : FnScope ["_law_cell", "_law_least", "_law_most", "_law_some", "_law_size", "_law_at"] ["_law_cell", "_law_least", "_law_most"] (defScope s__law_word) := ⟨rfl, rfl, rfl, by decide +kernel, rfl, by decide +kernel, by decide +kernel⟩
theorem ok__law_word (T : Txt K mg) {f : Addr} {fd : FuncData} (N : Fn K mg "_law_word" s__law_word ["_law_cell", "_law_least", "_law_most"] f fd) : FnOk P w K mg base CX0 (1) f fd ["_law_cell", "_law_least", "_law_most"] (spWord) := by
  refine N.fu.okB sc__law_word (fun vs H Q E h => ?_) (fun cdv A outer s H vs Q E hr h => ?_)
  · obtain ⟨c, lo, hi, rfl, _⟩ := h
    rfl
  · obtain ⟨c, lo, hi, rfl, h0, h1, h2, q⟩ := h
    refine ⟨_, (bss_cons (bs_set (i := 3) sc__law_word.nd rfl (by first | exact Or.inl rfl | exact Or.inr rfl) b_str)
    (bss_cons (bs_set (i := 4) sc__law_word.nd rfl (by first | exact Or.inl rfl | exact Or.inr rfl) (b_op o_add (bv 1) (b_op op_mod (bv 0) (b_op o_add (b_op op_sub (bv 2) (bv 1)) b_int))))
    (bss_cons (bs_set (i := 5) sc__law_word.nd rfl (by first | exact Or.inl rfl | exact Or.inr rfl) (b_op op_mod (b_op op_fdiv (bv 0) b_int) (b_b (c_max rfl) T.b_max (by kernel_rfl) (ba_c (bv 4) (ba_c b_int ba_nil rfl) rfl))))
    (bss_cons (bs_if (bt_cmp (o_eqD (room100 hr)) (bv 4) b_int (nomark _))
      (bss_one (bs_ret b_str))
      bss_nil)
    (bss_one (bs_ret (b_op o_add (b_op o_add (b_op o_mul b_str (bv 5)) (b_ix ix_seq (bv 3) (b_op op_mod (b_op op_fdiv (bv 0) b_int) (b_b c_len T.b_len (by kernel_rfl) (ba_c (bv 3) ba_nil rfl))) (fun _ _ => rfl))) (b_op o_mul b_str (b_op op_sub (b_op op_sub (bv 4) b_int) (bv 5)))))))))), ?_⟩
    kas_types
    rw [show (Str.ofString " !\"#$&'()*+,-./0123456789:;<=>?@ABCDEFGHIJKLMNOPQRSTUVWXYZ[\\]^_`abcdefghijklmnopqrstuvwxyz{|}~") = someSigns from rfl]
    have hsl := some_len
    have hso := some_ok
    generalize someSigns = S at *
    have hSz : S.length ≤ sizeLine := by rw [hsl]; decide
    have e0 := Int.emod_nonneg c (show hi - lo + 1 ≠ 0 by omega)
    have e1 := Int.emod_lt_of_pos c (show 0 < hi - lo + 1 by omega)
    lcg_off
    generalize hsz : lo + c % (hi - lo + 1) = size at *
    have p0 : (0 : Int) < max size 1 := by omega
    have a0 := Int.emod_nonneg (c / 64) (Int.ne_of_gt p0)
    have a1 := Int.emod_lt_of_pos (c / 64) p0
    generalize hat : c / 64 % max size 1 = at' at *
    refine ite_dec (fun h3 => ?_) (fun h3 => ?_)
    · lcg_off
      exact q _ (by rw [h3]; rfl) rfl
    · have p1 : (0 : Int) < (S.length : Int) := by omega
      obtain ⟨ch, hch, hmem⟩ := atI_get' (xs := S.cps.toList) (i := c / 2048 % (S.length : Int)) (Int.emod_nonneg _ (Int.ne_of_gt p1)) (by rw [← len_list]; exact Int.emod_lt_of_pos _ p1)
      have okc : okSign ch = true := List.all_eq_true.mp hso ch hmem
      have l1 : (Txt.mul (Str.ofString "k") at').length = at'.toNat := by rw [len_list, mul_k_list, List.length_replicate]
      have l2 : (Txt.mul (Str.ofString "k") (size - 1 - at')).length = (size - 1 - at').toNat := by rw [len_list, mul_k_list, List.length_replicate]
      have l3 : (Txt.mul (Str.ofString "k") at' ++ ⟨#[ch]⟩ : Str).length = at'.toNat + 1 := by rw [len_list, app_list, List.length_append, ← len_list, l1]; rfl
      lcg_off
      refine rd_mulS (mulOk_small (by decide +kernel) (by omega) (by omega)) ?_
      lcg_off
      refine rd_ixS hSz hch (rd_addS ?_ ?_)
      · rw [l1, sizeLine_eq]
        show at'.toNat + 1 ≤ _
        omega
      · lcg_off
        refine rd_mulS (mulOk_small (by decide +kernel) (by omega) (by omega)) (rd_addS ?_ ?_)
        · rw [l3, l2, sizeLine_eq]
          omega
        · refine q _ ?_ ?_
          · rw [len_list, app_list, List.length_append, ← len_list, ← len_list, l3, l2]
            omega
          · rw [app_list, app_list, mul_k_list, mul_k_list, List.all_append, List.all_append, List.all_replicate, List.all_replicate]
            have : okSign 107 = true := by decide
            simp [this, okc]
theorem word_use {H : Hp} {Q : VK} {E : XK} {c lo hi : Int} (h0 : 0 ≤ lo) (h1 : lo ≤ hi) (h2 : hi ≤ 500) (q : ∀ z : Str, (z.length : Int) = lo + c % (hi - lo + 1) → z.cps.toList.all okSign = true → Q (.str z) H) : spWord [.int c, .int lo, .int hi] H Q E := ⟨c, lo, hi, rfl, h0, h1, h2, q⟩
def spWhole : Sp := fun vs H Q _ => ∃ i, vs = [.int i] ∧ Q (.bl true) H
theorem sc__law_whole : FnScope ["_law_found"] ["_law_found"] (defScope s__law_whole) := ⟨rfl, rfl, rfl, by decide +kernel, rfl, by decide +kernel, by decide +kernel⟩
theorem ok__law_whole (T : Txt K mg) {f : Addr} {fd : FuncData} (N : Fn K mg "_law_whole" s__law_whole ["_law_found"] f fd) : FnOk P w K mg base CX0 (1) f fd ["_law_found"] (spWhole) := by
  refine N.fu.okB sc__law_whole (fun vs H Q E h => ?_) (fun cdv A outer s H vs Q E hr h => ?_)
  · obtain ⟨i, rfl, _⟩ := h
    rfl
  · obtain ⟨i, rfl, q⟩ := h
    refine ⟨_, (bss_one (bs_ret (b_and (b_b c_isinst T.b_isinstance (by kernel_rfl) (ba_c (bv 0) (ba_c (b_ty (T := "int") T.b_int (by kernel_rfl)) ba_nil rfl) rfl)) (b_one (b_not (b_b c_isinst T.b_isinstance (by kernel_rfl) (ba_c (bv 0) (ba_c (b_ty (T := "bool") T.b_bool (by kernel_rfl)) ba_nil rfl) rfl))))))), ?_⟩
    kas_types
    lcg_off
    exact q
theorem whole_use {H : Hp} {Q : VK} {E : XK} {i : Int} (q : Q (.bl true) H) : spWhole [.int i] H Q E := ⟨i, rfl, q⟩
end
section
variable {P : Program} {w : World} {K : PySem.W.Frag} {mg : Str → Option Value} {base : Heap}
def numS (f : Int) (n : Int) (c : Nat) : Int := (n * f + (c : Int)) % 1000003
def numM (f : Int) (cs : List Nat) : Int := cs.foldl (numS f) 7
def bitM (sz : Int) (z : Str) (b f : Int) : Int := Builtin.bitOr b (1 * 2 ^ (numM f z.cps.toList % sz).toNat)
def keyM (sz : Int) (b : Int) (z : Str) : Int := ([31, 37, 41] : List Int).foldl (bitM sz z) b
def inner : Stmt := match defBody s_probe with
  | d :: _ => d
  | _ => .Pass ⟨0, 0, 0, 0⟩
abbrev iPos : Pos := match inner with
  | .FunctionDef _ _ _ _ _ _ _ _ _ p => p
  | _ => ⟨0, 0, 0, 0⟩
abbrev iQual : Str := Str.ofString "probe" ++ Str.ofString ".<locals>." ++ Str.ofString "place_of"
abbrev TOk2 (H : Hp) : Prop := TabOk tabP iPos iQual H
abbrev spProbe : Sp := spClo tabP iPos "place_of" iQual (defArgs inner) (defBody inner) (defScope inner) "factor"
theorem sc_probe : FnScope ["factor", "place_of"] ["factor"] (defScope s_probe) := ⟨rfl, rfl, rfl, by decide +kernel, rfl, by decide +kernel, by decide +kernel⟩
theorem sc_place_of : CloScope ["key", "size", "number", "sign", "factor"] ["key", "size"] "factor" 4 (defScope inner) := ⟨rfl, rfl, rfl, by decide +kernel, rfl, by decide +kernel, by decide +kernel, rfl, by decide +kernel, rfl, by decide⟩
theorem clo_probe (env : Env) (cc : Addr) (h : env.cells.lookup (Str.ofString "factor") = some cc) : closureFor (defScope inner) env = pure [(Str.ofString "factor", cc)] := by
  have e : (defScope inner).names = ([(Str.ofString "key", NameKind.local), (Str.ofString "size", NameKind.local), (Str.ofString "number", NameKind.local), (Str.ofString "sign", NameKind.local), (Str.ofString "factor", NameKind.free), (Str.ofString "FIRST_NUMBER", NameKind.globalImplicit), (Str.ofString "ord", NameKind.globalImplicit), (Str.ofString "MODULUS", NameKind.globalImplicit)] : List (Str × NameKind)) := by rfl
  unfold closureFor
  rw [e]
  simp [cellOf, h]
theorem ok_probe (T : Txt K mg) (hB : base.BuiltinsAt mg tabP) {f : Addr} {fd : FuncData} (N : Fn K mg "probe" s_probe ["factor"] f fd) {cd : Addr} (hfc : fd.code = .ref cd) (hch : PySem.W.codeHdIn K cd tabP = true) (kIn : K.In base) : FnOk P w K mg base CX0 1 f fd ["factor"] spProbe := by
  exact clo_fn (k := 0) N.fu sc_probe rfl rfl (by decide) (np := _) (rpos := _) rfl rfl rfl (fun _ => rfl) clo_probe (fun _ _ => rfl) (by decide) hfc (PySem.W.codeHd_of_K kIn hch) hB
def placesM (z : Str) (sz : Int) : List Int := ([31, 37, 41] : List Int).map fun f => numM f z.cps.toList % sz
theorem place_run {z : Str} {sz fa : Int} {ff c' cc : Addr} {H : Hp} {Q : VK} (T : Txt K mg) (hz : 0 < sz) (hfa : -(2 ^ 64) < fa ∧ fa < 2 ^ 64) (h1 : H ff = some (.ext (CloO "place_of" iQual (defArgs inner) (defBody inner) (defScope inner) [("factor", cc)] ff c'))) (h2 : H c' = some (.ext (CodeO iQual c'))) (h3 : H cc = some (.ext (CelO (.int fa) cc)))
    (q : Q (.int (numM fa z.cps.toList % sz)) H) : RunsV P w K mg base 1 ff [.str z, .int sz] H Q := by
  refine runs_clo (k := 0) (R := fun v => v = .int (numM fa z.cps.toList % sz)) sc_place_of h1 h2 h3 (fun us doc pm ctv hl => match us, hl with | [_, _], _ => rfl) rfl (fun A outer s hr => ?_) (fun v hv => by rw [hv]; exact q)
  generalize del H cc = H0
  refine ⟨_, (bss_cons (bs_set (i := 2) sc_place_of.nd rfl (by first | exact Or.inl rfl | exact Or.inr rfl) (b_gl T.g_FIRST_NUMBER))
    (bss_cons (bs_for PassesOwn.never rfl (bi_str (bv 0)) (bg_name (i := 3) sc_place_of.nd rfl (by first | exact Or.inl rfl | exact Or.inr rfl))
      (bss_one (bs_set (i := 2) sc_place_of.nd rfl (by first | exact Or.inl rfl | exact Or.inr rfl) (b_op op_mod (b_op o_add (b_op o_mul (bv 2) (bv 4)) (b_b call_ord T.b_ord (by kernel_rfl) (ba_c (bv 3) ba_nil rfl))) (b_gl T.g_MODULUS)))))
    (bss_one (bs_ret (b_op op_mod (bv 2) (bv 1)))))), ?_⟩
  kas_types
  show tSeq _ _ _ [some (.str z), some (.int sz), none, none, some (.int fa)] H0
  lcg_off
  refine forS (z := z) (fun k σ F => ∃ (o3 : Option V), σ = [some (.str z), some (.int sz), some (.int ((z.cps.toList.take k).foldl (numS fa) 7)), o3, some (.int fa)] ∧ F = H0)
    ⟨none, rfl, rfl⟩ (fun k ch σ F hk hch h => ?_) (fun σ F h => ?_)
  · obtain ⟨o3, rfl, rfl⟩ := h
    obtain ⟨hkl, hke⟩ := List.getElem?_eq_some_iff.mp hch
    have hk1 : (z.cps.toList.take (k + 1)).foldl (numS fa) 7 = numS fa ((z.cps.toList.take k).foldl (numS fa) 7) ch := by
      rw [List.take_succ_eq_append_getElem hkl, hke, List.foldl_append]
      rfl
    lcg_off
    refine ⟨_, rfl, rfl, ?_⟩
    lcg_off
    refine ⟨some (.str ⟨#[ch]⟩), ?_, rfl⟩
    rw [hk1]
    rfl
  · obtain ⟨o3, rfl, rfl⟩ := h
    rw [List.take_length]
    lcg_off
    exact ⟨rfl, rfl⟩
def spPlaces (K : PySem.W.Frag) : Sp := fun vs H Q _ => ∃ (z : Str) (sz : Int), vs = [.str z, .int sz] ∧ 0 < sz ∧ TOk2 H ∧ ∀ l H1, H l = none → SameB tabP H H1 → TOk2 H1 → H1 l = some (.lst ((placesM z sz).map V.int)) → Q (.ref l) H1
theorem sc_places_of : FnScope ["key", "size"] ["key", "size"] (defScope s_places_of) := ⟨rfl, rfl, rfl, by decide +kernel, rfl, by decide +kernel, by decide +kernel⟩
theorem ok_places_of (T : Txt K mg) (hB : base.BuiltinsAt mg tabP) (kIn : K.In base) {f : Addr} {fd : FuncData} (N : Fn K mg "places_of" s_places_of ["key", "size"] f fd) : FnOk P w K mg base CX0 (2) f fd ["key", "size"] (spPlaces K) := by
  obtain ⟨_, _, _, N_probe, hfc_probe, hch_probe⟩ := T.c_probe
  have G_probe := ok_probe (P := P) (w := w) (base := base) T hB N_probe hfc_probe hch_probe kIn
  obtain ⟨a_FACTORS, gF_FACTORS, hF_FACTORS⟩ := T.g_FACTORS
  refine N.fu.okB sc_places_of (fun vs H Q E h => ?_) (fun cdv A outer s H vs Q E hr h => ?_)
  · obtain ⟨z, sz, rfl, _⟩ := h
    rfl
  · obtain ⟨z, sz, rfl, hz, ht, q⟩ := h
    refine ⟨_, (bss_one (bs_ret (b_lc (x := "factor") (ix := [0, 1]) (fv := ["key", "size"]) (osc := defScope s_places_of) rfl ⟨rfl, by decide +kernel, by decide +kernel, by rfl, by decide +kernel, by decide +kernel, by decide +kernel⟩ (by rfl) (bi_tup (b_gl gF_FACTORS)) (fun _ _ _ _ => bf_nil) (fun _ _ _ _ => (b_callV rfl rfl rfl rfl rfl (hr.mono (by first | decide | omega) : Room 1 _) (b_f N_probe G_probe (hr.mono (by first | decide | omega)) (ba_c (bv 0) ba_nil rfl)) (ba_c (bv 1) (ba_c (bv 2) ba_nil rfl) rfl)))))), ?_⟩
    kas_types
    lcg_off
    refine ⟨a_FACTORS, rfl, ⟨_, hF_FACTORS H⟩, ?_⟩
    refine lcWt (xs := [.int 31, .int 37, .int 41]) (fun i us F => SameB tabP H F ∧ TOk2 F ∧ us = ((placesM z sz).take i).map V.int ∧ i ≤ 3) (by simp [sizeLine_eq]) ⟨SameB.refl, ht, rfl, by decide⟩ (fun i us F h => ⟨hF_FACTORS F, by rw [h.2.2.1, List.length_map, List.length_take]; have := h.2.2.2; simp [placesM]; omega⟩) (fun i v us F hv h => ?_) (fun us pu F F1 h hpu sF hF => ?_)
    · obtain ⟨f1, f2, rfl, _⟩ := h
      obtain ⟨fa, hfa, rfl⟩ : ∃ fa : Int, ([31, 37, 41] : List Int)[i]? = some fa ∧ v = .int fa := by
        have e : ([.int 31, .int 37, .int 41] : List V) = ([31, 37, 41] : List Int).map V.int := rfl
        rw [e, List.getElem?_map] at hv
        obtain ⟨fa, h1, h2⟩ := Option.map_eq_some_iff.mp hv
        exact ⟨fa, h1, h2.symm⟩
      have hf3 : fa = 31 ∨ fa = 37 ∨ fa = 41 := by simpa using List.mem_of_getElem? hfa
      have hil := (List.getElem?_eq_some_iff.mp hfa).1
      have hpl : (placesM z sz)[i]? = some (numM fa z.cps.toList % sz) := by
        unfold placesM
        rw [List.getElem?_map, hfa]
        rfl
      obtain ⟨hpl1, hpl2⟩ := List.getElem?_eq_some_iff.mp hpl
      lcg_off
      refine ⟨.int fa, rfl, f2, fun ff c' cc H1 hff hcc s1 t1 h1 h2 h3 => ?_⟩
      refine ⟨ff, rfl, ⟨_, _, _, _, _, _, _, h1⟩, ?_⟩
      lcg_off
      refine ⟨⟨_, _, _, _, _, _, _, h1⟩, place_run T hz (by omega) h1 h2 h3 ?_⟩
      refine ⟨f1.trans s1, t1, ?_, hil⟩
      rw [List.take_succ_eq_append_getElem hpl1, hpl2, List.map_append]
      rfl
    obtain ⟨f1, f2, rfl, _⟩ := h
    obtain ⟨ps, hT⟩ := f2.tbl
    refine q pu F1 ?_ (f1.trans (.of sF)) (f2.same sF) (by rw [hF]; rfl)
    cases e : H pu with
    | none => rfl
    | some o =>
      by_cases n : pu = tabP
      · rw [n, hT] at hpu
        cases hpu
      · rw [f1 _ _ e n] at hpu
        cases hpu
theorem places_use {K : PySem.W.Frag} {H : Hp} {Q : VK} {E : XK} {z : Str} {sz : Int} (hz : 0 < sz) (ht : TOk2 H) (q : ∀ l H1, H l = none → SameB tabP H H1 → TOk2 H1 → H1 l = some (.lst ((placesM z sz).map V.int)) → Q (.ref l) H1) : spPlaces K [.str z, .int sz] H Q E := ⟨z, sz, rfl, hz, ht, q⟩
theorem bitOr_nat (a b : Nat) : Builtin.bitOr (a : Int) (b : Int) = ((a ||| b : Nat) : Int) := by
  have e1 : Builtin.bitNot (Builtin.bitNot (a : Int)) = a := by unfold Builtin.bitNot; omega
  have e2 : Builtin.bitNot (Builtin.bitNot (b : Int)) = b := by unfold Builtin.bitNot; omega
  have n1 : decide (0 ≤ Builtin.bitNot (a : Int)) = false := by unfold Builtin.bitNot; simp; omega
  have n2 : decide (0 ≤ Builtin.bitNot (b : Int)) = false := by unfold Builtin.bitNot; simp; omega
  unfold Builtin.bitOr
  rw [Builtin.bitAnd, n1, n2]
  dsimp only
  rw [e1, e2]
  unfold Builtin.bitNot
  simp only [Int.toNat_natCast]
  omega
theorem bit_test (n k : Nat) : decide (Builtin.bitAnd ((n : Int) / 2 ^ k) 1 = 1) = n.testBit k := by
  have e : ((n : Int) / 2 ^ k) = ((n / 2 ^ k : Nat) : Int) := by rw [Int.natCast_ediv]; simp
  rw [e, Builtin.bitAnd]
  have n1 : decide (0 ≤ ((n / 2 ^ k : Nat) : Int)) = true := decide_eq_true (Int.natCast_nonneg _)
  rw [n1, show decide (0 ≤ (1 : Int)) = true by decide]
  dsimp only
  rw [Int.toNat_natCast, show (1 : Int).toNat = 1 from rfl, Nat.and_one_is_mod, Nat.testBit_eq_decide_div_mod_eq]
  congr 1
  simp only [eq_iff_iff]
  omega
def mayM (bt : Int) (pl : List Int) : Bool := pl.all fun p => decide (Builtin.bitAnd (bt / 2 ^ p.toNat) 1 = 1)
theorem bitM_nat {sz : Int} {z : Str} {n : Nat} {f : Int} : ∃ m : Nat, bitM sz z (n : Int) f = m ∧ m.testBit (numM f z.cps.toList % sz).toNat = true ∧ ∀ k, n.testBit k = true → m.testBit k = true := by
  refine ⟨n ||| 2 ^ (numM f z.cps.toList % sz).toNat, ?_, ?_, fun k hk => ?_⟩
  · unfold bitM
    rw [Int.one_mul, show ((2 : Int) ^ (numM f z.cps.toList % sz).toNat) = ((2 ^ (numM f z.cps.toList % sz).toNat : Nat) : Int) by simp, bitOr_nat]
  · rw [Nat.testBit_or, Nat.testBit_two_pow_self, Bool.or_true]
  · rw [Nat.testBit_or, hk, Bool.true_or]
theorem keyM_nat {sz : Int} {z : Str} {n : Nat} : ∃ m : Nat, keyM sz (n : Int) z = m ∧ (∀ p ∈ placesM z sz, m.testBit p.toNat = true) ∧ ∀ k, n.testBit k = true → m.testBit k = true := by
  obtain ⟨m1, a1, a2, a3⟩ := bitM_nat (sz := sz) (z := z) (n := n) (f := 31)
  obtain ⟨m2, b1, b2, b3⟩ := bitM_nat (sz := sz) (z := z) (n := m1) (f := 37)
  obtain ⟨m3, c1, c2, c3⟩ := bitM_nat (sz := sz) (z := z) (n := m2) (f := 41)
  refine ⟨m3, ?_, fun p hp => ?_, fun k hk => c3 _ (b3 _ (a3 _ hk))⟩
  · unfold keyM
    rw [List.foldl_cons, List.foldl_cons, List.foldl_cons, List.foldl_nil, a1, b1, c1]
  · simp only [placesM, List.map_cons, List.map_nil, List.mem_cons, List.not_mem_nil, or_false] at hp
    rcases hp with rfl | rfl | rfl
    · exact c3 _ (b3 _ a2)
    · exact c3 _ b2
    · exact c2
theorem siev_nat {sz : Int} : ∀ (zs : List Str) (n : Nat), ∃ m : Nat, zs.foldl (keyM sz) (n : Int) = m ∧ (∀ z ∈ zs, ∀ p ∈ placesM z sz, m.testBit p.toNat = true) ∧ ∀ k, n.testBit k = true → m.testBit k = true
  | [], n => ⟨n, rfl, fun z h => (nomatch h), fun k h => h⟩
  | z :: zs, n => by
    obtain ⟨m1, a1, a2, a3⟩ := keyM_nat (sz := sz) (z := z) (n := n)
    obtain ⟨m2, b1, b2, b3⟩ := siev_nat zs m1
    refine ⟨m2, by rw [List.foldl_cons, a1, b1], fun y hy p hp => ?_, fun k hk => b3 _ (a3 _ hk)⟩
    rcases List.mem_cons.mp hy with rfl | hy
    · exact b3 _ (a2 p hp)
    · exact b2 y hy p hp
def spMay (K : PySem.W.Frag) : Sp := fun vs H Q _ => ∃ (t : Addr) (z : Str) (sz bt : Int), vs = [.ref t, .str z] ∧ H t = some (.tup [.int sz, .int bt]) ∧ 0 < sz ∧ 0 ≤ bt ∧ TOk2 H ∧ ∀ H1, SameB tabP H H1 → TOk2 H1 → Q (.bl (mayM bt (placesM z sz))) H1
theorem sc_may_have : FnScope ["sieve", "key", "bits"] ["sieve", "key"] (defScope s_may_have) := ⟨rfl, rfl, rfl, by decide +kernel, rfl, by decide +kernel, by decide +kernel⟩
theorem ok_may_have (T : Txt K mg) (hB : base.BuiltinsAt mg tabP) (kIn : K.In base) {f : Addr} {fd : FuncData} (N : Fn K mg "may_have" s_may_have ["sieve", "key"] f fd) : FnOk P w K mg base CX0 (3) f fd ["sieve", "key"] (spMay K) := by
  obtain ⟨_, _, N_places_of⟩ := T.f_places_of
  have G_places_of := ok_places_of (P := P) (w := w) (base := base) T hB kIn N_places_of 
  refine N.fu.okB sc_may_have (fun vs H Q E h => ?_) (fun cdv A outer s H vs Q E hr h => ?_)
  · obtain ⟨t, z, sz, bt, rfl, _⟩ := h
    rfl
  · obtain ⟨t, z, sz, bt, rfl, ht, hz, hb, tok, q⟩ := h
    have hp0 : ∀ p ∈ placesM z sz, 0 ≤ p := fun p hp => by
      obtain ⟨f, _, rfl⟩ := List.mem_map.mp hp
      exact Int.emod_nonneg _ (by omega)
    have hpl : (placesM z sz).length = 3 := rfl
    refine ⟨_, (bss_cons (bs_set (i := 2) sc_may_have.nd rfl (by first | exact Or.inl rfl | exact Or.inr rfl) (b_ix ix_seq (bv 0) b_int (fun _ _ => rfl)))
    (bss_one (bs_ret (b_b (c_all rfl) T.b_all (by kernel_rfl) (ba_c (b_lc (x := "place") (ix := [2]) (fv := ["bits"]) (osc := defScope s_may_have) rfl ⟨rfl, by decide +kernel, by decide +kernel, by rfl, by decide +kernel, by decide +kernel, by decide +kernel⟩ (by rfl) (bi_list (b_f N_places_of G_places_of (hr.mono (by first | decide | omega)) (ba_c (bv 1) (ba_c (b_ix ix_seq (bv 0) b_int (fun _ _ => rfl)) ba_nil rfl) rfl))) (fun _ _ _ _ => bf_nil) (fun _ _ _ _ => (b_cmp (o_eqD (room100 hr)) (b_op op_and (b_op op_shr (bv 1) (bv 0)) b_int) b_int (nomark _)))) ba_nil rfl))))), ?_⟩
    kas_types
    lcg_off
    refine places_use hz tok (fun l H1 hl s1 t1 h1 => ?_)
    generalize placesM z sz = pl at *
    lcg_off
    refine lcWl (xs := pl.map V.int) (fun i us F => Same H1 F ∧ us = ((pl.take i).map fun p => V.bl (decide (Builtin.bitAnd (bt / 2 ^ p.toNat) 1 = 1))) ∧ i ≤ 3) (by rw [List.length_map, hpl, sizeLine_eq]; omega) ⟨Same.refl _, rfl, by decide⟩ (fun i us F h => ⟨SqL.of (h.1 _ _ h1), by rw [h.2.1, List.length_map, List.length_take]; have := h.2.2; omega⟩) (fun i v us F hv h => ?_) (fun us pu F F1 h hpu sF hF => ?_)
    · obtain ⟨f1, rfl, _⟩ := h
      rw [List.getElem?_map] at hv
      obtain ⟨p, hp, rfl⟩ := Option.map_eq_some_iff.mp hv
      have hpp := hp0 p (List.mem_of_getElem? hp)
      obtain ⟨hpl1, hpl2⟩ := List.getElem?_eq_some_iff.mp hp
      lcg_off
      refine ⟨f1, ?_, by omega⟩
      rw [List.take_succ_eq_append_getElem hpl1, hpl2, List.map_append]
      rfl
    · obtain ⟨f1, rfl, _⟩ := h
      rw [List.length_map, List.take_length] at hF
      lcg_off
      have hF' : F1 pu = some (.lst ((pl.map fun p => decide (Builtin.bitAnd (bt / 2 ^ p.toNat) 1 = 1)).map V.bl)) := by rw [List.map_map]; exact hF
      refine rd_all _ (SqL.of hF') ?_
      have e : (pl.map fun p => decide (Builtin.bitAnd (bt / 2 ^ p.toNat) 1 = 1)).all id = mayM bt pl := by
        unfold mayM
        rw [List.all_map]
        rfl
      rw [e]
      exact q _ (s1.trans (.of (Same.tr sF f1))) (t1.same (Same.tr sF f1))
theorem may_use {K : PySem.W.Frag} {H : Hp} {Q : VK} {E : XK} {t : Addr} {z : Str} {sz bt : Int} (ht : H t = some (.tup [.int sz, .int bt])) (hz : 0 < sz) (hb : 0 ≤ bt) (tok : TOk2 H) (q : ∀ H1, SameB tabP H H1 → TOk2 H1 → Q (.bl (mayM bt (placesM z sz))) H1) : spMay K [.ref t, .str z] H Q E := ⟨t, z, sz, bt, rfl, ht, hz, hb, tok, q⟩
end
section
variable {P : Program} {w : World} {K : PySem.W.Frag} {mg : Str → Option Value} {base : Heap}
def szM (ks : List Str) : Int := 8 * max 1 ((SW.onces ks).length : Int)
def spSieveOf (K : PySem.W.Frag) : Sp := fun vs H Q _ => ∃ (p : Addr) (ks : List Str), vs = [.ref p] ∧ H p = some (.lst (ks.map V.str)) ∧ ks.length < 1000 ∧ TOk2 H ∧ ∀ t H1, SameB tabP H H1 → TOk2 H1 → H1 t = some (.tup [.int (szM ks), .int (ks.foldl (keyM (szM ks)) 0)]) → Q (.ref t) H1
theorem sc_sieve_of : FnScope ["keys", "size", "bits", "key", "place"] ["keys"] (defScope s_sieve_of) := ⟨rfl, rfl, rfl, by decide +kernel, rfl, by decide +kernel, by decide +kernel⟩
theorem ok_sieve_of (T : Txt K mg) (hB : base.BuiltinsAt mg tabP) (kIn : K.In base) {f : Addr} {fd : FuncData} (N : Fn K mg "sieve_of" s_sieve_of ["keys"] f fd) : FnOk P w K mg base CX0 (3) f fd ["keys"] (spSieveOf K) := by
  obtain ⟨_, _, N_places_of⟩ := T.f_places_of
  have G_places_of := ok_places_of (P := P) (w := w) (base := base) T hB kIn N_places_of 
  refine N.fu.okB sc_sieve_of (fun vs H Q E h => ?_) (fun cdv A outer s H vs Q E hr h => ?_)
  · obtain ⟨p, ks, rfl, _⟩ := h
    rfl
  · obtain ⟨p, ks, rfl, hp, hl, tok, q⟩ := h
    have ol := SW.onces_le ks
    have bits1 : (Builtin.Int.intBits 1 : Int) = 1 := by decide +kernel
    refine ⟨_, (bss_cons (bs_set (i := 1) sc_sieve_of.nd rfl (by first | exact Or.inl rfl | exact Or.inr rfl) (b_op o_mul b_int (b_b (c_max rfl) T.b_max (by kernel_rfl) (ba_c b_int (ba_c (b_b c_lenZ T.b_len (by kernel_rfl) (ba_c (b_t c_setZ T.b_set (by kernel_rfl) (ba_c (bv 0) ba_nil rfl)) ba_nil rfl)) ba_nil rfl) rfl))))
    (bss_cons (bs_set (i := 2) sc_sieve_of.nd rfl (by first | exact Or.inl rfl | exact Or.inr rfl) b_int)
    (bss_cons (bs_for PassesOwn.never rfl (bi_list (bv 0)) (bg_name (i := 3) sc_sieve_of.nd rfl (by first | exact Or.inl rfl | exact Or.inr rfl))
      (bss_one (bs_for PassesOwn.never rfl (bi_list (b_f N_places_of G_places_of (hr.mono (by first | decide | omega)) (ba_c (bv 3) (ba_c (bv 1) ba_nil rfl) rfl))) (bg_name (i := 4) sc_sieve_of.nd rfl (by first | exact Or.inl rfl | exact Or.inr rfl))
      (bss_one (bs_set (i := 2) sc_sieve_of.nd rfl (by first | exact Or.inl rfl | exact Or.inr rfl) (b_op op_or (bv 2) (b_op o_shl b_int (bv 4))))))))
    (bss_one (bs_ret (b_tup (ba_c (bv 1) (ba_c (bv 2) ba_nil rfl) rfl))))))), ?_⟩
    kas_types
    lcg_off
    refine rd_setZ ks (SqL.of hp) (by omega) (fun pl H1 hpl s1 h1 => ?_)
    lcg_off
    refine rd_lenZ _ h1 ?_
    lcg_off
    obtain ⟨ps, hT⟩ := tok.tbl
    have hz : (0 : Int) < 8 * max 1 ((SW.onces ks).length : Int) := by omega
    have hz2 : 8 * max 1 ((SW.onces ks).length : Int) < 10000 := by omega
    rw [show 8 * max 1 ((SW.onces ks).length : Int) = szM ks from rfl] at *
    generalize szM ks = sz at *
    have hp1 := s1 _ _ hp
    refine forL (xs := ks.map V.str) (fun i σ H' => ∃ (o3 o4 : Option V), σ = [some (.ref p), some (.int sz), some (.int ((ks.take i).foldl (keyM sz) 0)), o3, o4] ∧ SameB tabP H H' ∧ TOk2 H')
      ⟨none, none, rfl, .of s1, tok.same s1⟩ (fun i σ H' h => by obtain ⟨_, _, _, a, _⟩ := h; exact SqL.of (a.toN hT _ _ hp (fun _ z => by cases z))) (fun i x σ H' hi hx h => ?_) (fun σ H' h => ?_)
    · obtain ⟨o3, o4, rfl, g1, g2⟩ := h
      rw [List.getElem?_map] at hx
      obtain ⟨z, hzi, rfl⟩ := Option.map_eq_some_iff.mp hx
      obtain ⟨hzl, hze⟩ := List.getElem?_eq_some_iff.mp hzi
      have ht1 : (ks.take (i + 1)).foldl (keyM sz) 0 = keyM sz ((ks.take i).foldl (keyM sz) 0) z := by
        rw [List.take_succ_eq_append_getElem hzl, hze, List.foldl_append]
        rfl
      generalize (ks.take i).foldl (keyM sz) 0 = b0 at *
      lcg_off
      refine places_use hz g2 (fun l H2 hl0 s2 t2 h2 => ?_)
      have hp0 : ∀ q ∈ placesM z sz, 0 ≤ q ∧ q < sz := fun q hq => by
        obtain ⟨f, _, rfl⟩ := List.mem_map.mp hq
        exact ⟨Int.emod_nonneg _ (by omega), Int.emod_lt_of_pos _ (by omega)⟩
      lcg_off
      refine forL (xs := (placesM z sz).map V.int) (fun j σ F => ∃ (o4 : Option V), σ = [some (.ref p), some (.int sz), some (.int (((placesM z sz).take j).foldl (fun b q => Builtin.bitOr b (1 * 2 ^ q.toNat)) b0)), some (.str z), o4] ∧ F = H2)
        ⟨_, rfl, rfl⟩ (fun j σ F h => by obtain ⟨_, _, rfl⟩ := h; exact SqL.of h2) (fun j x σ F hj hx h => ?_) (fun σ F h => ?_)
      · obtain ⟨o4, rfl, rfl⟩ := h
        rw [List.getElem?_map] at hx
        obtain ⟨q, hq, rfl⟩ := Option.map_eq_some_iff.mp hx
        obtain ⟨hql, hqe⟩ := List.getElem?_eq_some_iff.mp hq
        obtain ⟨q0, q1⟩ := hp0 q (List.mem_of_getElem? hq)
        have hj1 : ((placesM z sz).take (j + 1)).foldl (fun b q => Builtin.bitOr b (1 * 2 ^ q.toNat)) b0 = Builtin.bitOr (((placesM z sz).take j).foldl (fun b q => Builtin.bitOr b (1 * 2 ^ q.toNat)) b0) (1 * 2 ^ q.toNat) := by
          rw [List.take_succ_eq_append_getElem hql, hqe, List.foldl_append]
          rfl
        lcg_off
        refine rd_shlB ⟨q0, by rw [bits1]; omega⟩ ?_
        lcg_off
        refine ⟨some (.int q), ?_, rfl⟩
        rw [hj1]
      · obtain ⟨o4, rfl, rfl⟩ := h
        refine ⟨some (.str z), o4, ?_, g1.trans s2, t2⟩
        rw [ht1, List.length_map, List.take_length]
        rfl
    · obtain ⟨o3, o4, rfl, g1, g2⟩ := h
      rw [List.length_map, List.take_length]
      lcg_off
      rename_i t Ht st ht
      exact q t Ht (g1.trans (.of st)) (g2.same st) ht
theorem sieveof_use {K : PySem.W.Frag} {H : Hp} {Q : VK} {E : XK} {p : Addr} (ks : List Str) (hp : H p = some (.lst (ks.map V.str))) (hl : ks.length < 1000) (tok : TOk2 H) (q : ∀ t H1, SameB tabP H H1 → TOk2 H1 → H1 t = some (.tup [.int (szM ks), .int (ks.foldl (keyM (szM ks)) 0)]) → Q (.ref t) H1) : spSieveOf K [.ref p] H Q E := ⟨p, ks, rfl, hp, hl, tok, q⟩
def spPlace : Sp := fun vs H Q _ => ∃ (z : Str) (sz fa : Int), vs = [.str z, .int sz, .int fa] ∧ 0 < sz ∧ (-(2 ^ 64) < fa ∧ fa < 2 ^ 64) ∧ Q (.int (numM fa z.cps.toList % sz)) H
theorem sc__law_place : FnScope ["_law_key", "_law_size", "_law_factor", "_law_number", "_law_sign"] ["_law_key", "_law_size", "_law_factor"] (defScope s__law_place) := ⟨rfl, rfl, rfl, by decide +kernel, rfl, by decide +kernel, by decide +kernel⟩
theorem ok__law_place (T : Txt K mg) {f : Addr} {fd : FuncData} (N : Fn K mg "_law_place" s__law_place ["_law_key", "_law_size", "_law_factor"] f fd) : FnOk P w K mg base CX0 (1) f fd ["_law_key", "_law_size", "_law_factor"] (spPlace) := by
  refine N.fu.okB sc__law_place (fun vs H Q E h => ?_) (fun cdv A outer s H vs Q E hr h => ?_)
  · obtain ⟨z, sz, fa, rfl, _⟩ := h
    rfl
  · obtain ⟨z, sz, fa, rfl, hz, hfa, q⟩ := h
    refine ⟨_, (bss_cons (bs_set (i := 3) sc__law_place.nd rfl (by first | exact Or.inl rfl | exact Or.inr rfl) b_int)
    (bss_cons (bs_for PassesOwn.never rfl (bi_str (bv 0)) (bg_name (i := 4) sc__law_place.nd rfl (by first | exact Or.inl rfl | exact Or.inr rfl))
      (bss_one (bs_set (i := 3) sc__law_place.nd rfl (by first | exact Or.inl rfl | exact Or.inr rfl) (b_op op_mod (b_op o_add (b_op o_mul (bv 3) (bv 2)) (b_b call_ord T.b_ord (by kernel_rfl) (ba_c (bv 4) ba_nil rfl))) b_int))))
    (bss_one (bs_ret (b_op op_mod (bv 3) (bv 1)))))), ?_⟩
    kas_types
    lcg_off
    refine forS (z := z) (fun k σ F => ∃ (o4 : Option V), σ = [some (.str z), some (.int sz), some (.int fa), some (.int ((z.cps.toList.take k).foldl (numS fa) 7)), o4] ∧ F = H)
      ⟨none, rfl, rfl⟩ (fun k ch σ F hk hch h => ?_) (fun σ F h => ?_)
    · obtain ⟨o4, rfl, rfl⟩ := h
      obtain ⟨hkl, hke⟩ := List.getElem?_eq_some_iff.mp hch
      have hk1 : (z.cps.toList.take (k + 1)).foldl (numS fa) 7 = numS fa ((z.cps.toList.take k).foldl (numS fa) 7) ch := by
        rw [List.take_succ_eq_append_getElem hkl, hke, List.foldl_append]
        rfl
      lcg_off
      refine ⟨_, rfl, rfl, ?_⟩
      lcg_off
      refine ⟨some (.str ⟨#[ch]⟩), ?_, rfl⟩
      rw [hk1]
      rfl
    · obtain ⟨o4, rfl, rfl⟩ := h
      rw [List.take_length]
      lcg_off
      exact q
theorem place_use {H : Hp} {Q : VK} {E : XK} {z : Str} {sz fa : Int} (hz : 0 < sz) (hfa : -(2 ^ 64) < fa ∧ fa < 2 ^ 64) (q : Q (.int (numM fa z.cps.toList % sz)) H) : spPlace [.str z, .int sz, .int fa] H Q E := ⟨z, sz, fa, rfl, hz, hfa, q⟩
end
section
variable {P : Program} {w : World} {K : PySem.W.Frag} {mg : Str → Option Value} {base : Heap}
theorem inV_strs {z : Str} : ∀ {ws : List Str}, inV (.str z) (ws.map V.str) = decide (z ∈ ws)
  | [] => by simp [inV]
  | w :: ws => by
    have := inV_strs (z := z) (ws := ws)
    unfold inV at this ⊢
    rw [List.map_cons, List.any_cons, this]
    simp only [eqV, List.mem_cons]
    by_cases h : w = z
    · subst h; simp
    · have h' : ¬ z = w := fun e => h e.symm
      simp [h, h']
theorem flat_strs (ws : List Str) : (ws.map V.str).all flatV = true := by
  rw [List.all_map]
  exact List.all_eq_true.mpr fun _ _ => rfl
theorem rd_inS {K : PySem.W.Frag} {H : Hp} {Q : VK} {p : Addr} {ws : List Str} {x : Str} {neg : Bool} (h1 : SqL K H p (ws.map V.str)) (q : Q (.bl (if neg then !decide (x ∈ ws) else decide (x ∈ ws))) H) : rIn K neg (.str x) (.ref p) H Q := ⟨p, _, rfl, .inl h1, rfl, flat_strs ws, by rw [inV_strs]; exact q⟩
def spUnlike (K : PySem.W.Frag) : Sp := fun vs H Q _ => ∃ (p : Addr) (ks : List Str), vs = [.ref p] ∧ H p = some (.lst (ks.map V.str)) ∧ ks.length < 1000 ∧ ∀ l H1, H l = none → Same H H1 → H1 l = some (.lst ((SW.onces ks).map V.str)) → Q (.ref l) H1
theorem sc__law_unlike : FnScope ["_law_keys_here", "_law_found", "_law_key"] ["_law_keys_here"] (defScope s__law_unlike) := ⟨rfl, rfl, rfl, by decide +kernel, rfl, by decide +kernel, by decide +kernel⟩
theorem ok__law_unlike (T : Txt K mg) {f : Addr} {fd : FuncData} (N : Fn K mg "_law_unlike" s__law_unlike ["_law_keys_here"] f fd) : FnOk P w K mg base CX0 (1) f fd ["_law_keys_here"] (spUnlike K) := by
  refine N.fu.okB sc__law_unlike (fun vs H Q E h => ?_) (fun cdv A outer s H vs Q E hr h => ?_)
  · obtain ⟨p, ks, rfl, _⟩ := h
    rfl
  · obtain ⟨p, ks, rfl, hp, hl, q⟩ := h
    refine ⟨_, (bss_cons (bs_set (i := 1) sc__law_unlike.nd rfl (by first | exact Or.inl rfl | exact Or.inr rfl) (b_lst ba_nil))
    (bss_cons (bs_for PassesOwn.never rfl (bi_list (bv 0)) (bg_name (i := 2) sc__law_unlike.nd rfl (by first | exact Or.inl rfl | exact Or.inr rfl))
      (bss_one (bs_if (bt_cmp op_notIn_seq (bv 2) (bv 1) rfl)
      (bss_one (bs_expr (bm_append (bv 1) (ba_c (bv 2) ba_nil rfl))))
      bss_nil)))
    (bss_one (bs_ret (bv 1))))), ?_⟩
    kas_types
    lcg_off
    rename_i l Hl hl0 sl hl'
    refine forL (xs := ks.map V.str) (fun i σ H' => ∃ (o2 : Option V), σ = [some (.ref p), some (.ref l), o2] ∧ Same H H' ∧ H' l = some (.lst ((SW.onces (ks.take i)).map V.str)))
      ⟨none, rfl, sl, hl'⟩ (fun i σ H' h => by obtain ⟨_, _, a, _⟩ := h; exact SqL.of (a _ _ hp)) (fun i x σ H' hi hx h => ?_) (fun σ H' h => ?_)
    · obtain ⟨o2, rfl, s1, h1⟩ := h
      rw [List.getElem?_map] at hx
      obtain ⟨z, hzi, rfl⟩ := Option.map_eq_some_iff.mp hx
      obtain ⟨hzl, hze⟩ := List.getElem?_eq_some_iff.mp hzi
      have ht1 : SW.onces (ks.take (i + 1)) = SW.onceK (SW.onces (ks.take i)) z := by
        unfold SW.onces
        rw [List.take_succ_eq_append_getElem hzl, hze, List.foldl_append]
        rfl
      have hol := SW.onces_le (ks.take i)
      rw [List.length_take] at hol
      generalize SW.onces (ks.take i) = os at *
      lcg_off
      refine rd_inS (SqL.of h1) ?_
      lcg_off
      by_cases c : z ∈ os
      · rw [if_neg (by simp [c])]
        lcg_off
        refine ⟨_, rfl, s1, ?_⟩
        rw [ht1, SW.onceK, if_pos c]
        exact h1
      · rw [if_pos (by simp [c])]
        lcg_off
        refine rd_append h1 (by rw [List.length_map, sizeLine_eq]; omega) ?_
        lcg_off
        refine ⟨_, rfl, same_updL s1 hl0, ?_⟩
        rw [ht1, SW.onceK, if_neg c, upd_same, List.map_append]
        rfl
    · obtain ⟨o2, rfl, s1, h1⟩ := h
      rw [List.length_map, List.take_length] at h1
      lcg_off
      exact q l H' hl0 s1 h1
theorem unlike_use {K : PySem.W.Frag} {H : Hp} {Q : VK} {E : XK} {p : Addr} (ks : List Str) (hp : H p = some (.lst (ks.map V.str))) (hl : ks.length < 1000) (q : ∀ l H1, H l = none → Same H H1 → H1 l = some (.lst ((SW.onces ks).map V.str)) → Q (.ref l) H1) : spUnlike K [.ref p] H Q E := ⟨p, ks, rfl, hp, hl, q⟩
def spKeys (K : PySem.W.Frag) : Sp := fun vs H Q _ => ∃ (a : Addr) (ns : List Int), vs = [.ref a] ∧ SqL K H a (ns.map V.int) ∧ ns.length ≤ 63 ∧ ∀ l H1 (ks : List Str), H l = none → Same H H1 → H1 l = some (.lst (ks.map V.str)) → ks.length ≤ 200 → Q (.ref l) H1
theorem sc__law_keys : FnScope ["_law_script", "_law_keys_here", "_law_k", "_law_pick"] ["_law_script"] (defScope s__law_keys) := ⟨rfl, rfl, rfl, by decide +kernel, rfl, by decide +kernel, by decide +kernel⟩
theorem ok__law_keys (T : Txt K mg) {f : Addr} {fd : FuncData} (N : Fn K mg "_law_keys" s__law_keys ["_law_script"] f fd) : FnOk P w K mg base CX0 (2) f fd ["_law_script"] (spKeys K) := by
  obtain ⟨_, _, N__law_mixed⟩ := T.f__law_mixed
  have G__law_mixed := ok__law_mixed (P := P) (w := w) (base := base) T N__law_mixed 
  obtain ⟨_, _, N__law_word⟩ := T.f__law_word
  have G__law_word := ok__law_word (P := P) (w := w) (base := base) T N__law_word 
  obtain ⟨_, _, N__law_cell_at⟩ := T.f__law_cell_at
  have G__law_cell_at := ok__law_cell_at (P := P) (w := w) (base := base) T N__law_cell_at 
  refine N.fu.okB sc__law_keys (fun vs H Q E h => ?_) (fun cdv A outer s H vs Q E hr h => ?_)
  · obtain ⟨a, ns, rfl, _⟩ := h
    rfl
  · obtain ⟨a, ns, rfl, hS, hn, q⟩ := h
    refine ⟨_, (bss_cons (bs_set (i := 1) sc__law_keys.nd rfl (by first | exact Or.inl rfl | exact Or.inr rfl) (b_lst ba_nil))
    (bss_cons (bs_for PassesOwn.never rfl (bi_r1 T.b_range (ba_c (b_b (c_min rfl) T.b_min (by kernel_rfl) (ba_c (b_b (c_max rfl) T.b_max (by kernel_rfl) (ba_c (b_op op_sub (b_b c_len T.b_len (by kernel_rfl) (ba_c (bv 0) ba_nil rfl)) b_int) (ba_c b_int ba_nil rfl) rfl)) (ba_c b_int ba_nil rfl) rfl)) ba_nil rfl)) (bg_name (i := 2) sc__law_keys.nd rfl (by first | exact Or.inl rfl | exact Or.inr rfl))
      (bss_cons (bs_set (i := 3) sc__law_keys.nd rfl (by first | exact Or.inl rfl | exact Or.inr rfl) (b_f N__law_mixed G__law_mixed (hr.mono (by first | decide | omega)) (ba_c (b_ix ix_seq (bv 0) (b_op o_add b_int (bv 2)) (fun _ _ => rfl)) (ba_c (bv 2) ba_nil rfl) rfl)))
    (bss_cons (bs_expr (bm_append (bv 1) (ba_c (b_f N__law_word G__law_word (hr.mono (by first | decide | omega)) (ba_c (bv 3) (ba_c b_int (ba_c b_int ba_nil rfl) rfl) rfl)) ba_nil rfl)))
    (bss_one (bs_if (bt_cmp (o_eqD (room100 hr)) (b_op op_mod (b_op op_fdiv (bv 3) b_int) b_int) b_int (nomark _))
      (bss_one (bs_expr (bm_append (bv 1) (ba_c (b_op o_add (b_slice s_any (b_ix ix_seq (bv 1) (b_op op_mod (b_op op_fdiv (bv 3) b_int) (b_b c_len T.b_len (by kernel_rfl) (ba_c (bv 1) ba_nil rfl))) (fun _ _ => rfl)) bo_none (bo_some b_int)) (b_ix ix_seq (b_lst (ba_c b_str (ba_c b_str ba_nil rfl) rfl)) (b_op op_mod (b_op op_fdiv (bv 3) b_int) b_int) (fun _ _ => rfl))) ba_nil rfl))))
      bss_nil)))))
    (bss_cons (bs_if (bt_cmp (o_eqD (room100 hr)) (b_op op_mod (b_f N__law_cell_at G__law_cell_at (hr.mono (by first | decide | omega)) (ba_c (bv 0) (ba_c b_int ba_nil rfl) rfl)) b_int) b_int (nomark _))
      (bss_one (bs_set (i := 1) sc__law_keys.nd rfl (by first | exact Or.inl rfl | exact Or.inr rfl) (b_op o_add (bv 1) (b_lc (x := "_law_k") (ix := []) (fv := []) (osc := defScope s__law_keys) rfl ⟨rfl, by decide +kernel, by decide +kernel, by rfl, by decide +kernel, by decide +kernel, by decide +kernel⟩ (by rfl) (bi_r1 T.b_range (ba_c (b_op o_add b_int (b_op op_mod (b_op op_fdiv (b_f N__law_cell_at G__law_cell_at (hr.mono (by first | decide | omega)) (ba_c (bv 0) (ba_c b_int ba_nil rfl) rfl)) b_int) b_int)) ba_nil rfl)) (fun _ _ _ _ => bf_nil) (fun _ _ _ _ => (b_op (o_addK (K := K) rfl) b_str (b_t c_str T.b_str (by kernel_rfl) (ba_c (b_op o_mul (bv 0) (bv 0)) ba_nil rfl))))))))
      bss_nil)
    (bss_one (bs_ret (bv 1)))))), ?_⟩
    kas_types
    lcg_off
    rename_i l Hl hl0 sl hl'
    have cut19 : ∀ z : Str, (Txt.slice z none (some 19)).length ≤ 19 := fun z => by
      have : ((19 : Int)) = ((19 : Nat) : Int) := rfl
      rw [this, len_list, slice_allT, List.length_take]
      omega
    refine forR (fun i σ H' => ∃ (ks : List Str) (o2 o3 : Option V), σ = [some (.ref a), some (.ref l), o2, o3] ∧ Same H H' ∧ H' l = some (.lst (ks.map V.str)) ∧ ks.length ≤ 2 * i ∧ ∀ z ∈ ks, z.length ≤ 20)
      ⟨[], none, none, rfl, sl, hl', Nat.le_refl _, fun z h => (nomatch h)⟩ (fun i σ H' hi h => ?_) (fun σ H' h => ?_)
    · obtain ⟨ks, o2, o3, rfl, s1, h1, h2, h3⟩ := h
      rw [List.length_map] at hi
      have hil : 4 + i < ns.length := by omega
      have hi20 : i < 20 := by omega
      lcg_off
      rw [show (4 : Int) + (0 + (i : Int)) = ((4 + i : Nat) : Int) by omega]
      refine rd_ixL (hS.same s1) (atI_nat (v := .int ns[4 + i]) (by rw [List.getElem?_map, List.getElem?_eq_getElem hil]; rfl)) ?_
      lcg_off
      refine mixed_use ?_
      obtain ⟨mb0, mb1⟩ := mixed_bound ns[4 + i] (0 + (i : Int))
      generalize mixed ns[4 + i] (0 + (i : Int)) = pick at *
      lcg_off
      refine word_use (by decide) (by decide) (by decide) (fun z hz _ => ?_)
      have w0 := Int.emod_nonneg pick (show (20 : Int) ≠ 0 by decide)
      have w1 := Int.emod_lt_of_pos pick (show (0 : Int) < 20 by decide)
      have hz20 : z.length ≤ 20 := by
        rw [show (20 : Int) - 1 + 1 = 20 by decide] at hz
        omega
      lcg_off
      refine rd_append h1 (by rw [List.length_map, sizeLine_eq]; omega) ?_
      have g1 : upd H' l (.lst (ks.map V.str ++ [.str z])) l = some (.lst ((ks ++ [z]).map V.str)) := by rw [upd_same, List.map_append]; rfl
      have gs : Same H (upd H' l (.lst (ks.map V.str ++ [.str z]))) := same_updL s1 hl0
      generalize upd H' l (.lst (ks.map V.str ++ [.str z])) = G at *
      have g3 : ∀ y ∈ ks ++ [z], y.length ≤ 20 := fun y hy => (List.mem_append.mp hy).elim (h3 y) fun e => by rw [List.mem_singleton.mp e]; exact hz20
      have g2 : (ks ++ [z]).length ≤ 2 * i + 1 := by rw [List.length_append]; simp; omega
      have gp : 0 < (ks ++ [z]).length := by simp
      generalize ks ++ [z] = js at *
      lcg_off
      refine ite_dec (fun c1 => ?_) (fun c1 => ?_)
      · lcg_off
        refine rd_mod (by rw [List.length_map]; omega) ?_
        refine rd_pick (SqL.of g1) (Int.emod_nonneg _ (by rw [List.length_map]; omega)) (Int.emod_lt_of_pos _ (by rw [List.length_map]; omega)) (fun u hu => ?_)
        obtain ⟨y, hy, rfl⟩ := List.mem_map.mp hu
        have hy20 := g3 y hy
        have hc19 := cut19 y
        lcg_off
        refine rd_slS (by rw [sizeLine_eq]; omega) ?_
        lcg_off
        rename_i pl G2 hpl s2 h2'
        refine rd_pick (SqL.of h2') (Int.emod_nonneg _ (by decide)) (Int.emod_lt_of_pos _ (by decide)) (fun u2 hu2 => ?_)
        obtain ⟨x, rfl, hx⟩ : ∃ x : Str, u2 = .str x ∧ x.length ≤ 1 := by
          simp only [List.mem_cons, List.not_mem_nil, or_false] at hu2
          rcases hu2 with rfl | rfl <;> exact ⟨_, rfl, by decide +kernel⟩
        clear hu2
        lcg_off
        refine rd_addS (by rw [sizeLine_eq]; omega) ?_
        have hsum : (Txt.slice y none (some 19) ++ x).length ≤ 20 := by
          rw [len_list, app_list, List.length_append, ← len_list, ← len_list]
          omega
        generalize Txt.slice y none (some 19) ++ x = wz at *
        have g4 := s2 _ _ g1
        lcg_off
        refine rd_append g4 (by rw [List.length_map, sizeLine_eq]; omega) ?_
        lcg_off
        refine ⟨js ++ [wz], _, _, rfl, same_updL (Same.tr s2 gs) hl0, by rw [upd_same, List.map_append]; rfl, by rw [List.length_append]; simp; omega, fun y hy => (List.mem_append.mp hy).elim (g3 y) fun e => by rw [List.mem_singleton.mp e]; exact hsum⟩
      · lcg_off
        exact ⟨js, _, _, rfl, gs, g1, by omega, g3⟩
    · obtain ⟨ks, o2, o3, rfl, s1, h1, h2, h3⟩ := h
      rw [List.length_map] at h2
      have h40 : ks.length ≤ 40 := by omega
      lcg_off
      refine cell_use (k := 2) (hS.same s1) rfl ?_
      lcg_off
      refine ite_dec (fun c1 => ?_) (fun c1 => ?_)
      · have c0 := Int.emod_nonneg (ns.getD 2 0 / 8) (show (50 : Int) ≠ 0 by decide)
        have c2 := Int.emod_lt_of_pos (ns.getD 2 0 / 8) (show (0 : Int) < 50 by decide)
        lcg_off
        refine cell_use (k := 2) (hS.same s1) rfl ?_
        lcg_off
        obtain ⟨n, hnn⟩ : ∃ n : Nat, (100 + ns.getD 2 0 / 8 % 50).toNat = n := ⟨_, rfl⟩
        rw [hnn]
        have n150 : n < 150 := by omega
        refine lcWr (fun i us F => Same H' F ∧ ∃ js : List Str, us = js.map V.str ∧ js.length = i) (by rw [sizeLine_eq]; omega) ⟨Same.refl _, [], rfl, rfl⟩ (fun i us F h => by obtain ⟨_, js, rfl, e⟩ := h; rw [List.length_map, e]) (fun i us F hi h => ?_) (fun us pu F F1 h hpu sF hF => ?_)
        · obtain ⟨f1, js, rfl, e⟩ := h
          have hk : 0 + (i : Int) < 150 := by omega
          lcg_off
          have hq : ((0 + (i : Int)) * (0 + (i : Int))) = ((i * i : Nat) : Int) := by rw [Int.zero_add, Int.natCast_mul]
          rw [hq]
          have hb : ∀ j : Fin 150, ((((j.val * j.val : Nat) : Int)).natAbs.log2 < 1920 ∧ (toString (((j.val * j.val : Nat) : Int)) : Str).length ≤ 20) := by decide +kernel
          obtain ⟨b1, b2⟩ := hb ⟨i, by omega⟩
          dsimp only at b1 b2
          refine rd_str b1 ?_
          lcg_off
          refine rd_addS (by rw [sizeLine_eq, show (Str.ofString "key").length = 3 by decide +kernel]; omega) ?_
          exact ⟨f1, js ++ [_], by rw [List.map_append]; rfl, by rw [List.length_append, e]; rfl⟩
        · obtain ⟨f1, js, rfl, e⟩ := h
          have hlF := sF _ _ (f1 _ _ h1)
          lcg_off
          refine .inr (.inr (.inl ⟨l, pu, _, _, rfl, rfl, hlF, hF, by rw [List.length_map, List.length_map, sizeLine_eq]; omega, fun pj hpj => ?_⟩))
          have sJ : Same F1 (upd F1 pj (.lst (ks.map V.str ++ js.map V.str))) := same_new hpj
          lcg_off
          refine q pj _ (ks ++ js) (Same.free s1 (Same.free f1 (Same.free sF hpj))) (Same.tr sJ (Same.tr sF (Same.tr f1 s1))) (by rw [upd_same, List.map_append]) (by rw [List.length_append]; omega)
      · lcg_off
        exact q l H' ks hl0 s1 h1 (by omega)
theorem keys_use {K : PySem.W.Frag} {H : Hp} {Q : VK} {E : XK} {a : Addr} {ns : List Int} (hS : SqL K H a (ns.map V.int)) (hn : ns.length ≤ 63) (q : ∀ l H1 (ks : List Str), H l = none → Same H H1 → H1 l = some (.lst (ks.map V.str)) → ks.length ≤ 200 → Q (.ref l) H1) : spKeys K [.ref a] H Q E := ⟨a, ns, rfl, hS, hn, q⟩
end
section
variable {P : Program} {w : World} {K : PySem.W.Frag} {mg : Str → Option Value} {base : Heap}
def natS (ms : List Bool) : Nat → Nat
  | 0 => 0
  | i + 1 => natS ms i + if (ms[i]?).getD false = true then 2 ^ i else 0
theorem natS_lt (ms : List Bool) : ∀ i, natS ms i < 2 ^ i
  | 0 => by simp [natS]
  | i + 1 => by
    have := natS_lt ms i
    rw [natS, Nat.pow_succ]
    split <;> omega
theorem natS_bit (ms : List Bool) : ∀ i k, (natS ms i).testBit k = (decide (k < i) && (ms[k]?).getD false)
  | 0, k => by simp [natS]
  | i + 1, k => by
    have h := natS_lt ms i
    have ih := natS_bit ms i
    rcases Nat.lt_trichotomy k i with c | c | c
    · rw [natS]
      have e : decide (k < i + 1) = true := by simp; omega
      rw [e, Bool.true_and]
      have ih' := ih k
      rw [decide_eq_true c, Bool.true_and] at ih'
      split
      · rw [Nat.add_comm, Nat.testBit_two_pow_add_gt c]
        exact ih'
      · rw [Nat.add_zero]
        exact ih'
    · subst c
      rw [natS]
      have e : decide (k < k + 1) = true := by simp
      rw [e, Bool.true_and]
      have z : (natS ms k).testBit k = false := Nat.testBit_lt_two_pow h
      split
      · next hb => rw [Nat.add_comm, Nat.testBit_two_pow_add_eq, z, hb]; rfl
      · next hb =>
        rw [Nat.add_zero, z]
        simpa using hb
    · have h1 := natS_lt ms (i + 1)
      have z : (natS ms (i + 1)).testBit k = false := Nat.testBit_lt_two_pow (Nat.lt_of_lt_of_le h1 (Nat.pow_le_pow_right (by decide) c))
      rw [z, decide_eq_false (by omega), Bool.false_and]
theorem natS_set {ms : List Bool} {p : Nat} (hp : p < ms.length) : natS (ms.set p true) ms.length = natS ms ms.length ||| 2 ^ p := by
  apply Nat.eq_of_testBit_eq
  intro k
  rw [natS_bit, Nat.testBit_or, natS_bit, Nat.testBit_two_pow]
  by_cases c : p = k
  · subst c
    simp [hp]
  · rw [List.getElem?_set_ne c]
    simp [c]
theorem natS_false (n : Nat) : natS (List.replicate n false) n = 0 := by
  apply Nat.eq_of_testBit_eq
  intro k
  rw [natS_bit, Nat.zero_testBit]
  by_cases c : k < n
  · simp [c]
  · simp [c]
def markM (sz : Int) (ms : List Bool) (z : Str) : List Bool := (placesM z sz).foldl (fun m p => m.set p.toNat true) ms
theorem mark_len {sz : Int} {ms : List Bool} {z : Str} : (markM sz ms z).length = ms.length := by
  unfold markM
  simp only [placesM, List.map_cons, List.map_nil, List.foldl_cons, List.foldl_nil, List.length_set]
theorem mark_key {sz : Int} {ms : List Bool} {z : Str} (hs : 0 < sz) (hl : ms.length = sz.toNat) : keyM sz ((natS ms ms.length : Nat) : Int) z = ((natS (markM sz ms z) ms.length : Nat) : Int) := by
  have b : ∀ f : Int, (numM f z.cps.toList % sz).toNat < ms.length := fun f => by
    have h0 := Int.emod_nonneg (numM f z.cps.toList) (show sz ≠ 0 by omega)
    have h1 := Int.emod_lt_of_pos (numM f z.cps.toList) hs
    omega
  have step : ∀ (m : List Bool) (f : Int), m.length = ms.length → bitM sz z ((natS m ms.length : Nat) : Int) f = ((natS (m.set (numM f z.cps.toList % sz).toNat true) ms.length : Nat) : Int) := fun m f hm => by
    unfold bitM
    rw [Int.one_mul, show ((2 : Int) ^ (numM f z.cps.toList % sz).toNat) = ((2 ^ (numM f z.cps.toList % sz).toNat : Nat) : Int) by simp, bitOr_nat, ← hm, ← natS_set (by rw [hm]; exact b f)]
  unfold keyM markM
  simp only [placesM, List.map_cons, List.map_nil, List.foldl_cons, List.foldl_nil]
  rw [step ms 31 rfl, step _ 37 (by simp), step _ 41 (by simp)]
theorem marks_keys {sz : Int} (hs : 0 < sz) : ∀ (ks : List Str) (ms : List Bool), ms.length = sz.toNat → ks.foldl (keyM sz) ((natS ms ms.length : Nat) : Int) = ((natS (ks.foldl (markM sz) ms) ms.length : Nat) : Int) ∧ (ks.foldl (markM sz) ms).length = ms.length
  | [], ms, _ => ⟨rfl, rfl⟩
  | z :: ks, ms, hl => by
    have hm := mark_len (sz := sz) (ms := ms) (z := z)
    obtain ⟨a, b⟩ := marks_keys hs ks (markM sz ms z) (by rw [hm]; exact hl)
    rw [hm] at a b
    exact ⟨by rw [List.foldl_cons, List.foldl_cons, mark_key hs hl, a], by rw [List.foldl_cons, b]⟩
theorem lcWrf {σ : St} {H : Hp} {Q : VK} {ix : List Nat} {te : TE} {tt : TT} {lo : Int} {n : Nat} (W : Nat → List V → Hp → Prop) (hz : n ≤ sizeLine) (h0 : W 0 [] H) (hl : ∀ i ys H', W i ys H' → ys.length ≤ i)
    (hE : ∀ i ys H', i < n → W i ys H' → tt (some (.int (lo + i)) :: pick ix σ) H' fun b H4 => if b = true then te (some (.int (lo + i)) :: pick ix σ) H4 fun y H5 => W (i + 1) (ys ++ [y]) H5 else W (i + 1) ys H4)
    (hQ : ∀ ys p H' H1, W n ys H' → H' p = none → Same H' H1 → H1 p = some (.lst ys) → Q (.ref p) H1) : LcW (Itr lo n) ix σ tt te Q H := by
  refine ⟨fun i m ys H2 => m = n - i ∧ i ≤ n ∧ W i ys H2, ⟨n, by simp, Nat.zero_le _, h0⟩, ?_⟩
  rintro i m ys H2 ⟨rfl, hi, w⟩
  have e := hl i ys H2 w
  by_cases hlt : i < n
  · refine .inr ⟨hlt, by omega, fun x H3 y => ?_⟩
    obtain ⟨rfl, rfl⟩ := y
    have ex : ∀ (zs : List V) (H5 : Hp), (∃ m', m' < n - i ∧ m' = n - (i + 1) ∧ i + 1 ≤ n ∧ W (i + 1) zs H5) = W (i + 1) zs H5 := fun zs H5 =>
      propext ⟨fun ⟨m', _, _, _, h⟩ => h, fun h => ⟨n - (i + 1), by omega, rfl, hlt, h⟩⟩
    simp only [ex]
    exact hE i ys _ hlt w
  · have : i = n := by omega
    subst this
    exact .inl ⟨Nat.le_refl _, fun D hD => hQ ys D H2 _ w hD (same_new hD) upd_same⟩
def dueM (ms : List Bool) (sz : Int) (z : Str) (fs : List Int) : List Int := fs.filter fun f => !(ms[(numM f z.cps.toList % sz).toNat]?).getD false
theorem due_may {ms : List Bool} {sz : Int} {z : Str} (hs : 0 < sz) (hl : ms.length = sz.toNat) : decide (dueM ms sz z [31, 37, 41] = []) = mayM ((natS ms ms.length : Nat) : Int) (placesM z sz) := by
  have b : ∀ f : Int, (numM f z.cps.toList % sz).toNat < ms.length := fun f => by
    have h0 := Int.emod_nonneg (numM f z.cps.toList) (show sz ≠ 0 by omega)
    have h1 := Int.emod_lt_of_pos (numM f z.cps.toList) hs
    omega
  have t : ∀ f : Int, decide (Builtin.bitAnd (((natS ms ms.length : Nat) : Int) / 2 ^ (numM f z.cps.toList % sz).toNat) 1 = 1) = (ms[(numM f z.cps.toList % sz).toNat]?).getD false := fun f => by
    rw [bit_test, natS_bit, decide_eq_true (b f), Bool.true_and]
  unfold mayM placesM
  rw [List.all_map]
  rw [show ((fun p : Int => decide (Builtin.bitAnd (((natS ms ms.length : Nat) : Int) / 2 ^ p.toNat) 1 = 1)) ∘ fun f => numM f z.cps.toList % sz) = fun f => (ms[(numM f z.cps.toList % sz).toNat]?).getD false from funext t]
  unfold dueM
  rw [Bool.eq_iff_iff, decide_eq_true_iff, List.filter_eq_nil_iff, List.all_eq_true]
  simp
theorem strs_rep {H : Hp} : ∀ (ns : List Str), Reps H (ns.map L2.D.str) (ns.map V.str)
  | [] => by simp [Reps]
  | n :: ns => by
    simp only [List.map_cons, Reps]
    exact ⟨_, _, rfl, Rep.str', strs_rep ns⟩
theorem strs_dep : ∀ {ns : List Str}, L2.D.deps (ns.map L2.D.str) = 0
  | [] => by simp [D.deps]
  | n :: ns => by simp only [List.map_cons, D.deps, D.dep]; rw [strs_dep (ns := ns)]; rfl
theorem ne_strs {H : Hp} {Q : VK} {p p' : Addr} (ks : List Str) (h : H p = some (.lst (ks.map V.str))) (h' : H p' = some (.lst (ks.map V.str))) (q : Q (.bl false) H) : rNeD (.ref p) (.ref p') H Q := by
  refine ⟨.lst (ks.map .str), .lst (ks.map .str), by simp only [Rep]; exact ⟨p, _, rfl, h, strs_rep ks⟩, by simp only [Rep]; exact ⟨p', _, rfl, h', strs_rep ks⟩, by simp only [D.dep, strs_dep]; decide, by simp only [D.dep, strs_dep]; decide, ?_⟩
  rw [pyEq_refl]
  exact q
theorem ne_pair {H : Hp} {Q : VK} {p p' : Addr} {m n : Int} (h : H p = some (.tup [.int m, .int n])) (h' : H p' = some (.tup [.int m, .int n])) (q : Q (.bl false) H) : rNeD (.ref p) (.ref p') H Q := by
  refine ⟨.tup [.int m, .int n], .tup [.int m, .int n], by simp only [Rep, Reps]; exact ⟨p, _, rfl, h, _, _, rfl, rfl, _, _, rfl, rfl, rfl⟩, by simp only [Rep, Reps]; exact ⟨p', _, rfl, h', _, _, rfl, rfl, _, _, rfl, rfl, rfl⟩, by simp [D.dep, D.deps], by simp [D.dep, D.deps], ?_⟩
  rw [pyEq_refl]
  exact q
theorem ints_rep {H : Hp} : ∀ (ns : List Int), Reps H (ns.map L2.D.int) (ns.map V.int)
  | [] => by simp [Reps]
  | n :: ns => by
    simp only [List.map_cons, Reps]
    exact ⟨_, _, rfl, by simp only [Rep], ints_rep ns⟩
theorem ints_dep : ∀ {ns : List Int}, L2.D.deps (ns.map L2.D.int) = 0
  | [] => by simp [D.deps]
  | n :: ns => by simp only [List.map_cons, D.deps, D.dep]; rw [ints_dep (ns := ns)]; rfl
theorem eq_nilI {H : Hp} {Q : VK} {p p' : Addr} (ns : List Int) (h : H p = some (.lst (ns.map V.int))) (h' : H p' = some (.lst [])) (q : Q (.bl (decide (ns = []))) H) : rEqD (.ref p) (.ref p') H Q := by
  refine ⟨.lst (ns.map .int), .lst [], by simp only [Rep]; exact ⟨p, _, rfl, h, ints_rep ns⟩, by simp only [Rep]; exact ⟨p', [], rfl, h', by simp only [Reps]⟩, by simp only [D.dep, ints_dep]; decide, by simp [D.dep, D.deps], ?_⟩
  cases ns with
  | nil =>
    rw [List.map_nil, pyEq_refl]
    exact q
  | cons n ns => exact q
end
section
variable {P : Program} {w : World} {K : PySem.W.Frag} {mg : Str → Option Value} {base : Heap}
theorem bits_lc {K : PySem.W.Frag} {H : Hp} {Q : VK} {σ : St} {ix : List Nat} {p : Addr} {ms : List Bool} {n : Nat} (hix : pick ix σ = [some (.ref p)]) (hp : H p = some (.lst (ms.map V.bl))) (hn : ms.length = n) (hm : n ≤ 1600)
    (q : ∀ (ns : List Int) pu H1, ns.sum = ((natS ms n : Nat) : Int) → H pu = none → Same H H1 → H1 pu = some (.lst (ns.map V.int)) → Q (.ref pu) H1) : LcW (Itr 0 n) ix σ (tB (tOp (rIx K) (tVar 1) (tVar 0))) (tOp (rI CShl fun i j => V.int (i * 2 ^ j.toNat)) (tC (V.int 1)) (tVar 0)) Q H := by
  refine lcWrf (fun i us F => F = H ∧ ∃ ns : List Int, us = ns.map V.int ∧ ns.sum = ((natS ms i : Nat) : Int) ∧ ns.length ≤ i) (by rw [sizeLine_eq]; omega) ⟨rfl, [], rfl, rfl, Nat.le_refl _⟩ (fun i us F h => by obtain ⟨_, ns, rfl, _, h⟩ := h; rw [List.length_map]; exact h) (fun i us F hi h => ?_) (fun us pu F F1 h hpu sF hF => ?_)
  · obtain ⟨rfl, ns, rfl, e, l⟩ := h
    rw [hix]
    have hil : i < ms.length := by omega
    have hat : (ms.map V.bl)[i]? = some (.bl ms[i]) := by rw [List.getElem?_map, List.getElem?_eq_getElem hil]; rfl
    have hS : natS ms (i + 1) = natS ms i + if ms[i] = true then 2 ^ i else 0 := by rw [natS, List.getElem?_eq_getElem hil]; rfl
    lcg_off
    rw [show (0 : Int) + (i : Int) = (i : Int) by omega]
    refine rd_ixL (SqL.of hp) (atI_nat hat) ?_
    lcg_off
    by_cases c : ms[i] = true
    · rw [if_pos c]
      rw [if_pos c] at hS
      lcg_off
      refine rd_shlB ⟨by omega, by rw [show Builtin.Int.intBits 1 = 1 by decide +kernel]; omega⟩ ?_
      refine ⟨rfl, ns ++ [1 * 2 ^ ((i : Int)).toNat], by rw [List.map_append]; rfl, ?_, by rw [List.length_append]; simpa using l⟩
      rw [hS, List.sum_append, e]
      simp
    · rw [if_neg c]
      rw [if_neg c] at hS
      exact ⟨rfl, ns, rfl, by rw [hS, e]; simp, by omega⟩
  · obtain ⟨rfl, ns, rfl, e, l⟩ := h
    exact q ns pu F1 e hpu sF hF
theorem due_step {ms : List Bool} {sz : Int} {z : Str} {i : Nat} {f : Int} (hf : ([31, 37, 41] : List Int)[i]? = some f) : dueM ms sz z (([31, 37, 41] : List Int).take (i + 1)) = dueM ms sz z (([31, 37, 41] : List Int).take i) ++ if (ms[(numM f z.cps.toList % sz).toNat]?).getD false = true then [] else [f] := by
  obtain ⟨hl, he⟩ := List.getElem?_eq_some_iff.mp hf
  unfold dueM
  rw [List.take_succ_eq_append_getElem hl, he, List.filter_append]
  congr 1
  rw [List.filter_cons, List.filter_nil]
  cases (ms[(numM f z.cps.toList % sz).toNat]?).getD false <;> rfl
theorem due_len {ms : List Bool} {sz : Int} {z : Str} {i : Nat} : (dueM ms sz z (([31, 37, 41] : List Int).take i)).length ≤ i := by
  refine Nat.le_trans (List.length_filter_le _ _) ?_
  rw [List.length_take]
  omega
theorem due_lc {K : PySem.W.Frag} {H : Hp} {Q : VK} {σ : St} {ix : List Nat} {p pt : Addr} {ms : List Bool} {z : Str} {sz : Int} (hix : pick ix σ = [some (.ref p), some (.str z), some (.int sz)]) (hs : 0 < sz) (hp : H p = some (.lst (ms.map V.bl))) (hl : ms.length = sz.toNat) (ht : H pt = some (.tup [.int 31, .int 37, .int 41]))
    (q : ∀ pu H1, H pu = none → Same H H1 → H1 pu = some (.lst ((dueM ms sz z [31, 37, 41]).map V.int)) → Q (.ref pu) H1) : LcW (Itt K pt) ix σ (tNot (tB (tOp (rIx K) (tVar 1) (tCall spPlace [] E0 (tCons (tVar 2) (tCons (tVar 3) (tCons (tVar 0) tNil))))))) (tVar 0) Q H := by
  refine lcWtf (xs := ([31, 37, 41] : List Int).map V.int) (fun i us F => F = H ∧ us = (dueM ms sz z (([31, 37, 41] : List Int).take i)).map V.int) (by rw [sizeLine_eq]; simp) ⟨rfl, rfl⟩ (fun i us F h => by obtain ⟨rfl, rfl⟩ := h; exact ⟨SqT.of ht, by rw [List.length_map]; exact due_len⟩) (fun i x us F hx h => ?_) (fun us pu F F1 h hpu sF hF => ?_)
  · obtain ⟨rfl, rfl⟩ := h
    rw [hix]
    rw [List.getElem?_map] at hx
    obtain ⟨f, hf, rfl⟩ := Option.map_eq_some_iff.mp hx
    have hf3 : f = 31 ∨ f = 37 ∨ f = 41 := by simpa using List.mem_of_getElem? hf
    have hd := due_step (ms := ms) (sz := sz) (z := z) hf
    have b0 := Int.emod_nonneg (numM f z.cps.toList) (show sz ≠ 0 by omega)
    have b1 := Int.emod_lt_of_pos (numM f z.cps.toList) hs
    obtain ⟨n, hn⟩ := Int.eq_ofNat_of_zero_le b0
    have hnl : n < ms.length := by omega
    lcg_off
    refine place_use hs (by omega) ?_
    rw [hn] at hd ⊢
    rw [Int.toNat_natCast, List.getElem?_eq_getElem hnl, Option.getD_some] at hd
    lcg_off
    refine rd_ixL (v := .bl ms[n]) (SqL.of hp) (atI_nat (by rw [List.getElem?_map, List.getElem?_eq_getElem hnl]; rfl)) ?_
    lcg_off
    by_cases c : ms[n] = true
    · rw [if_pos c, List.append_nil] at hd
      rw [c]
      exact ⟨rfl, by rw [hd]⟩
    · rw [if_neg c] at hd
      rw [Bool.not_eq_true] at c
      rw [c]
      lcg_off
      exact ⟨rfl, by rw [hd, List.map_append]; rfl⟩
  · obtain ⟨rfl, rfl⟩ := h
    exact q pu F1 hpu sF hF
theorem due_lcH {K : PySem.W.Frag} {H : Hp} {Q : VK} {σ : St} {ix : List Nat} {p pt : Addr} {ms : List Bool} {z : Str} {sz : Int} (hix : pick ix σ = [some (.ref p), some (.str z)]) (hs : 0 < sz) (hp : H p = some (.lst (ms.map V.bl))) (hl : (ms.length : Int) = sz) (ht : H pt = some (.tup [.int 31, .int 37, .int 41]))
    (q : ∀ pu H1, H pu = none → Same H H1 → H1 pu = some (.lst ((dueM ms sz z [31, 37, 41]).map V.int)) → Q (.ref pu) H1) : LcW (Itt K pt) ix σ (tNot (tB (tOp (rIx K) (tVar 1) (tCall spPlace [] E0 (tCons (tVar 2) (tCons (tCB (rLen K) (tCons (tVar 1) tNil)) (tCons (tVar 0) tNil))))))) (tVar 0) Q H := by
  refine lcWtf (xs := ([31, 37, 41] : List Int).map V.int) (fun i us F => F = H ∧ us = (dueM ms sz z (([31, 37, 41] : List Int).take i)).map V.int) (by rw [sizeLine_eq]; simp) ⟨rfl, rfl⟩ (fun i us F h => by obtain ⟨rfl, rfl⟩ := h; exact ⟨SqT.of ht, by rw [List.length_map]; exact due_len⟩) (fun i x us F hx h => ?_) (fun us pu F F1 h hpu sF hF => ?_)
  · obtain ⟨rfl, rfl⟩ := h
    rw [hix]
    rw [List.getElem?_map] at hx
    obtain ⟨f, hf, rfl⟩ := Option.map_eq_some_iff.mp hx
    have hf3 : f = 31 ∨ f = 37 ∨ f = 41 := by simpa using List.mem_of_getElem? hf
    have hd := due_step (ms := ms) (sz := sz) (z := z) hf
    have b0 := Int.emod_nonneg (numM f z.cps.toList) (show sz ≠ 0 by omega)
    have b1 := Int.emod_lt_of_pos (numM f z.cps.toList) hs
    obtain ⟨n, hn⟩ := Int.eq_ofNat_of_zero_le b0
    have hnl : n < ms.length := by omega
    lcg_off
    rw [List.length_map, hl]
    refine place_use hs (by omega) ?_
    rw [hn] at hd ⊢
    rw [Int.toNat_natCast, List.getElem?_eq_getElem hnl, Option.getD_some] at hd
    lcg_off
    refine rd_ixL (v := .bl ms[n]) (SqL.of hp) (atI_nat (by rw [List.getElem?_map, List.getElem?_eq_getElem hnl]; rfl)) ?_
    lcg_off
    by_cases c : ms[n] = true
    · rw [if_pos c, List.append_nil] at hd
      rw [c]
      exact ⟨rfl, by rw [hd]⟩
    · rw [if_neg c] at hd
      rw [Bool.not_eq_true] at c
      rw [c]
      lcg_off
      exact ⟨rfl, by rw [hd, List.map_append]; rfl⟩
  · obtain ⟨rfl, rfl⟩ := h
    exact q pu F1 hpu sF hF
end
section
variable {P : Program} {w : World} {K : PySem.W.Frag} {mg : Str → Option Value} {base : Heap}
theorem SqL.sameN {K : PySem.W.Frag} {H H' : Hp} {a : Addr} {xs : List V} (h : SqL K H a xs) (s : SameN H H') : SqL K H' a xs := by
  rcases h with (h | ⟨o, h⟩) | h
  · exact .inl (.inl (s _ _ h (fun _ z => by cases z)))
  · exact .inl (.inr ⟨o, s _ _ h (fun _ z => by cases z)⟩)
  · exact .inr h
theorem cutV_25 (ks : List Str) : cutV (ks.map V.str) none (some 25) = (ks.take 25).map V.str := by
  by_cases h : 25 ≤ ks.length
  · rw [show (25 : Int) = ((25 : Nat) : Int) from rfl, cutV_to _ (by rw [List.length_map]; exact h), List.map_take]
  · rw [List.take_of_length_le (by omega)]
    unfold cutV
    have e : HT.sIx (ks.map V.str).length (ks.map V.str).length (some 25) = (ks.map V.str).length := by
      rw [List.length_map]
      unfold HT.sIx
      simp only
      rw [if_neg (by omega)]
      omega
    rw [e, show HT.sIx (ks.map V.str).length 0 none = 0 from rfl, List.drop_zero, Nat.sub_zero, List.take_length]
def spLaw (K : PySem.W.Frag) : Sp := fun vs H Q _ => ∃ (a : Addr) (ns : List Int), vs = [.ref a] ∧ SqL K H a (ns.map V.int) ∧ ns.length ≤ 63 ∧ TOk2 H ∧ ∀ H', Q (.bl true) H'
theorem sc_law : FnScope ["_law_script", "_law_keys_here", "_law_handed", "_law_sieve", "_law_size", "_law_marked", "_law_key", "_law_factor", "_law_bits", "_law_some", "_law_due", "_law_found", "_law_held", "_law_far", "_law_one", "_law_other"] ["_law_script"] (defScope s_law) := ⟨rfl, rfl, rfl, by decide +kernel, rfl, by decide +kernel, by decide +kernel⟩
theorem ok_law (T : Txt K mg) (hB : base.BuiltinsAt mg tabP) (kIn : K.In base) {f : Addr} {fd : FuncData} (N : Fn K mg "law" s_law ["_law_script"] f fd) : FnOk P w K mg base CX0 (5) f fd ["_law_script"] (spLaw K) := by
  obtain ⟨_, _, N__law_keys⟩ := T.f__law_keys
  have G__law_keys := ok__law_keys (P := P) (w := w) (base := base) T N__law_keys 
  obtain ⟨_, _, N_sieve_of⟩ := T.f_sieve_of
  have G_sieve_of := ok_sieve_of (P := P) (w := w) (base := base) T hB kIn N_sieve_of 
  obtain ⟨_, _, _, N_probe, hfc_probe, hch_probe⟩ := T.c_probe
  have G_probe := ok_probe (P := P) (w := w) (base := base) T hB N_probe hfc_probe hch_probe kIn
  obtain ⟨_, _, N__law_place⟩ := T.f__law_place
  have G__law_place := ok__law_place (P := P) (w := w) (base := base) T N__law_place 
  obtain ⟨_, _, N_may_have⟩ := T.f_may_have
  have G_may_have := ok_may_have (P := P) (w := w) (base := base) T hB kIn N_may_have 
  obtain ⟨_, _, N__law_whole⟩ := T.f__law_whole
  have G__law_whole := ok__law_whole (P := P) (w := w) (base := base) T N__law_whole 
  obtain ⟨_, _, N__law_word⟩ := T.f__law_word
  have G__law_word := ok__law_word (P := P) (w := w) (base := base) T N__law_word 
  obtain ⟨_, _, N__law_cell_at⟩ := T.f__law_cell_at
  have G__law_cell_at := ok__law_cell_at (P := P) (w := w) (base := base) T N__law_cell_at 
  obtain ⟨_, _, N__law_unlike⟩ := T.f__law_unlike
  have G__law_unlike := ok__law_unlike (P := P) (w := w) (base := base) T N__law_unlike 
  obtain ⟨_, _, N__law_mixed⟩ := T.f__law_mixed
  have G__law_mixed := ok__law_mixed (P := P) (w := w) (base := base) T N__law_mixed 
  refine N.fu.okB sc_law (fun vs H Q E h => ?_) (fun cdv A outer s H vs Q E hr h => ?_)
  · obtain ⟨a, ns, rfl, _⟩ := h
    rfl
  · obtain ⟨a, ns, rfl, hS, hn, tok, k⟩ := h
    refine ⟨_, (bss_cons (bs_set (i := 1) sc_law.nd rfl (by first | exact Or.inl rfl | exact Or.inr rfl) (b_f N__law_keys G__law_keys (hr.mono (by first | decide | omega)) (ba_c (bv 0) ba_nil rfl)))
    (bss_cons (bs_set (i := 2) sc_law.nd rfl (by first | exact Or.inl rfl | exact Or.inr rfl) (b_t c_list T.b_list (by kernel_rfl) (ba_c (bv 1) ba_nil rfl)))
    (bss_cons (bs_set (i := 3) sc_law.nd rfl (by first | exact Or.inl rfl | exact Or.inr rfl) (b_f N_sieve_of G_sieve_of (hr.mono (by first | decide | omega)) (ba_c (bv 2) ba_nil rfl)))
    (bss_cons (bs_set (i := 4) sc_law.nd rfl (by first | exact Or.inl rfl | exact Or.inr rfl) (b_b (c_max rfl) T.b_max (by kernel_rfl) (ba_c b_int (ba_c (b_op o_mul b_int (b_b c_len T.b_len (by kernel_rfl) (ba_c (b_f N__law_unlike G__law_unlike (hr.mono (by first | decide | omega)) (ba_c (bv 1) ba_nil rfl)) ba_nil rfl))) ba_nil rfl) rfl)))
    (bss_cons (bs_set (i := 5) sc_law.nd rfl (by first | exact Or.inl rfl | exact Or.inr rfl) (b_op o_mul (b_lst (ba_c b_bl ba_nil rfl)) (bv 4)))
    (bss_cons (bs_for PassesOwn.never rfl (bi_list (bv 1)) (bg_name (i := 6) sc_law.nd rfl (by first | exact Or.inl rfl | exact Or.inr rfl))
      (bss_one (bs_for PassesOwn.never rfl (bi_tup (b_tup (ba_c b_int (ba_c b_int (ba_c b_int ba_nil rfl) rfl) rfl))) (bg_name (i := 7) sc_law.nd rfl (by first | exact Or.inl rfl | exact Or.inr rfl))
      (bss_one (bs_asg b_bl (bg_sub (bv 5) (b_f N__law_place G__law_place (hr.mono (by first | decide | omega)) (ba_c (bv 6) (ba_c (bv 4) (ba_c (bv 7) ba_nil rfl) rfl) rfl)) set_list))))))
    (bss_cons (bs_if (bt_w (bw_or (bt_not (bt_val (b_b c_isinst T.b_isinstance (by kernel_rfl) (ba_c (bv 3) (ba_c (b_ty (T := "tuple") T.b_tuple (by kernel_rfl)) ba_nil rfl) rfl)) (fun _ => rfl))) (bw_or (bt_cmp (o_neD (room100 hr)) (b_b c_len T.b_len (by kernel_rfl) (ba_c (bv 3) ba_nil rfl)) b_int (nomark _)) (bw_or (bt_not (bt_val (b_f N__law_whole G__law_whole (hr.mono (by first | decide | omega)) (ba_c (b_ix ix_seq (bv 3) b_int (fun _ _ => rfl)) ba_nil rfl)) (fun _ => rfl))) (bw_or1 (bt_not (bt_val (b_f N__law_whole G__law_whole (hr.mono (by first | decide | omega)) (ba_c (b_ix ix_seq (bv 3) b_int (fun _ _ => rfl)) ba_nil rfl)) (fun _ => rfl))))))))
      (bss_one (bs_ret b_bl))
      bss_nil)
    (bss_cons (bs_set (i := 8) sc_law.nd rfl (by first | exact Or.inl rfl | exact Or.inr rfl) (b_b c_sumI T.b_sum (by kernel_rfl) (ba_c (b_lc (x := "_law_place_here") (ix := [5]) (fv := ["_law_marked"]) (osc := defScope s_law) rfl ⟨rfl, by decide +kernel, by decide +kernel, by rfl, by decide +kernel, by decide +kernel, by decide +kernel⟩ (by rfl) (bi_r1 T.b_range (ba_c (bv 4) ba_nil rfl)) (fun _ _ _ _ => (bf_one (bt_val (b_ix (ix_seqK (K := K) rfl) (bv 1) (bv 0) (fun _ _ => rfl)) (fun _ => rfl)))) (fun _ _ _ _ => (b_op o_shl b_int (bv 0)))) ba_nil rfl)))
    (bss_cons (bs_if (bt_w (bw_or (bt_cmp (o_neD (room100 hr)) (bv 3) (b_tup (ba_c (bv 4) (ba_c (bv 8) ba_nil rfl) rfl)) (nomark _)) (bw_or1 (bt_cmp (o_neD (room100 hr)) (bv 2) (bv 1) (nomark _)))))
      (bss_one (bs_ret b_bl))
      bss_nil)
    (bss_cons (bs_set (i := 9) sc_law.nd rfl (by first | exact Or.inl rfl | exact Or.inr rfl) (b_op o_add (b_slice s_any (bv 1) bo_none (bo_some b_int)) (b_lc (x := "_law_k") (ix := [0]) (fv := ["_law_script"]) (osc := defScope s_law) rfl ⟨rfl, by decide +kernel, by decide +kernel, by rfl, by decide +kernel, by decide +kernel, by decide +kernel⟩ (by rfl) (bi_r1 T.b_range (ba_c b_int ba_nil rfl)) (fun _ _ _ _ => bf_nil) (fun _ _ _ _ => (b_f N__law_word G__law_word (hr.mono (by first | decide | omega)) (ba_c (b_f N__law_mixed G__law_mixed (hr.mono (by first | decide | omega)) (ba_c (b_f N__law_cell_at G__law_cell_at (hr.mono (by first | decide | omega)) (ba_c (bv 1) (ba_c b_int ba_nil rfl) rfl)) (ba_c (bv 0) ba_nil rfl) rfl)) (ba_c b_int (ba_c b_int ba_nil rfl) rfl) rfl))))))
    (bss_cons (bs_for PassesOwn.never rfl (bi_list (bv 9)) (bg_name (i := 6) sc_law.nd rfl (by first | exact Or.inl rfl | exact Or.inr rfl))
      (bss_cons (bs_set (i := 10) sc_law.nd rfl (by first | exact Or.inl rfl | exact Or.inr rfl) (b_cmp (o_eqD (room100 hr)) (b_lc (x := "_law_factor") (ix := [5, 6, 4]) (fv := ["_law_marked", "_law_key", "_law_size"]) (osc := defScope s_law) rfl ⟨rfl, by decide +kernel, by decide +kernel, by rfl, by decide +kernel, by decide +kernel, by decide +kernel⟩ (by rfl) (bi_tup (b_tup (ba_c b_int (ba_c b_int (ba_c b_int ba_nil rfl) rfl) rfl))) (fun _ _ _ _ => (bf_one (bt_not (bt_val (b_ix (ix_seqK (K := K) rfl) (bv 1) (b_f N__law_place G__law_place (hr.mono (by first | decide | omega)) (ba_c (bv 2) (ba_c (bv 3) (ba_c (bv 0) ba_nil rfl) rfl) rfl)) (fun _ _ => rfl)) (fun _ => rfl))))) (fun _ _ _ _ => (bv 0))) (b_lst ba_nil) (nomark _)))
    (bss_cons (bs_set (i := 11) sc_law.nd rfl (by first | exact Or.inl rfl | exact Or.inr rfl) (b_f N_may_have G_may_have (hr.mono (by first | decide | omega)) (ba_c (bv 3) (ba_c (bv 6) ba_nil rfl) rfl)))
    (bss_one (bs_if (bt_w (bw_or (bt_not (bt_val (b_b c_isinst T.b_isinstance (by kernel_rfl) (ba_c (bv 11) (ba_c (b_ty (T := "bool") T.b_bool (by kernel_rfl)) ba_nil rfl) rfl)) (fun _ => rfl))) (bw_or (bt_cmp (o_neD (room100 hr)) (bv 11) (bv 10) (nomark _)) (bw_or1 (bt_w (bw_and (bt_cmp op_in_seq (bv 6) (bv 1) rfl) (bw_and1 (bt_not (bt_val (bv 11) (fun _ => rfl))))))))))
      (bss_one (bs_ret b_bl))
      bss_nil)))))
    (bss_cons (bs_set (i := 12) sc_law.nd rfl (by first | exact Or.inl rfl | exact Or.inr rfl) (b_lc (x := "_law_k") (ix := [0]) (fv := ["_law_script"]) (osc := defScope s_law) rfl ⟨rfl, by decide +kernel, by decide +kernel, by rfl, by decide +kernel, by decide +kernel, by decide +kernel⟩ (by rfl) (bi_r1 T.b_range (ba_c (b_b (c_min rfl) T.b_min (by kernel_rfl) (ba_c (bv 4) (ba_c b_int ba_nil rfl) rfl)) ba_nil rfl)) (fun _ _ _ _ => bf_nil) (fun _ _ _ _ => (b_cmp op_gt (b_op op_mod (b_f N__law_mixed G__law_mixed (hr.mono (by first | decide | omega)) (ba_c (b_f N__law_cell_at G__law_cell_at (hr.mono (by first | decide | omega)) (ba_c (bv 1) (ba_c b_int ba_nil rfl) rfl)) (ba_c (bv 0) ba_nil rfl) rfl)) b_int) b_int (nomark _)))))
    (bss_cons (bs_set (i := 8) sc_law.nd rfl (by first | exact Or.inl rfl | exact Or.inr rfl) (b_b c_sumI T.b_sum (by kernel_rfl) (ba_c (b_lc (x := "_law_place_here") (ix := [12]) (fv := ["_law_held"]) (osc := defScope s_law) rfl ⟨rfl, by decide +kernel, by decide +kernel, by rfl, by decide +kernel, by decide +kernel, by decide +kernel⟩ (by rfl) (bi_r1 T.b_range (ba_c (b_b c_len T.b_len (by kernel_rfl) (ba_c (bv 12) ba_nil rfl)) ba_nil rfl)) (fun _ _ _ _ => (bf_one (bt_val (b_ix (ix_seqK (K := K) rfl) (bv 1) (bv 0) (fun _ _ => rfl)) (fun _ => rfl)))) (fun _ _ _ _ => (b_op o_shl b_int (bv 0)))) ba_nil rfl)))
    (bss_cons (bs_for PassesOwn.never rfl (bi_list (bv 9)) (bg_name (i := 6) sc_law.nd rfl (by first | exact Or.inl rfl | exact Or.inr rfl))
      (bss_cons (bs_set (i := 10) sc_law.nd rfl (by first | exact Or.inl rfl | exact Or.inr rfl) (b_cmp (o_eqD (room100 hr)) (b_lc (x := "_law_factor") (ix := [12, 6]) (fv := ["_law_held", "_law_key"]) (osc := defScope s_law) rfl ⟨rfl, by decide +kernel, by decide +kernel, by rfl, by decide +kernel, by decide +kernel, by decide +kernel⟩ (by rfl) (bi_tup (b_tup (ba_c b_int (ba_c b_int (ba_c b_int ba_nil rfl) rfl) rfl))) (fun _ _ _ _ => (bf_one (bt_not (bt_val (b_ix (ix_seqK (K := K) rfl) (bv 1) (b_f N__law_place G__law_place (hr.mono (by first | decide | omega)) (ba_c (bv 2) (ba_c (b_b (c_lenK (K := K) rfl) T.b_len (by kernel_rfl) (ba_c (bv 1) ba_nil rfl)) (ba_c (bv 0) ba_nil rfl) rfl) rfl)) (fun _ _ => rfl)) (fun _ => rfl))))) (fun _ _ _ _ => (bv 0))) (b_lst ba_nil) (nomark _)))
    (bss_cons (bs_set (i := 11) sc_law.nd rfl (by first | exact Or.inl rfl | exact Or.inr rfl) (b_f N_may_have G_may_have (hr.mono (by first | decide | omega)) (ba_c (b_tup (ba_c (b_b c_len T.b_len (by kernel_rfl) (ba_c (bv 12) ba_nil rfl)) (ba_c (bv 8) ba_nil rfl) rfl)) (ba_c (bv 6) ba_nil rfl) rfl)))
    (bss_one (bs_if (bt_w (bw_or (bt_not (bt_val (b_b c_isinst T.b_isinstance (by kernel_rfl) (ba_c (bv 11) (ba_c (b_ty (T := "bool") T.b_bool (by kernel_rfl)) ba_nil rfl) rfl)) (fun _ => rfl))) (bw_or1 (bt_cmp (o_neD (room100 hr)) (bv 11) (bv 10) (nomark _)))))
      (bss_one (bs_ret b_bl))
      bss_nil)))))
    (bss_cons (bs_set (i := 7) sc_law.nd rfl (by first | exact Or.inl rfl | exact Or.inr rfl) (b_op o_add b_int (b_op op_mod (b_f N__law_cell_at G__law_cell_at (hr.mono (by first | decide | omega)) (ba_c (bv 0) (ba_c b_int ba_nil rfl) rfl)) b_int)))
    (bss_cons (bs_set (i := 13) sc_law.nd rfl (by first | exact Or.inl rfl | exact Or.inr rfl) (b_op o_add b_int (b_op op_mod (b_f N__law_cell_at G__law_cell_at (hr.mono (by first | decide | omega)) (ba_c (bv 0) (ba_c b_int ba_nil rfl) rfl)) (b_ix ix_seq (b_lst (ba_c b_int (ba_c b_int (ba_c (b_op op_pow b_int b_int) ba_nil rfl) rfl) rfl)) (b_op op_mod (b_op op_fdiv (b_f N__law_cell_at G__law_cell_at (hr.mono (by first | decide | omega)) (ba_c (bv 0) (ba_c b_int ba_nil rfl) rfl)) b_int) b_int) (fun _ _ => rfl)))))
    (bss_cons (bs_set (i := 14) sc_law.nd rfl (by first | exact Or.inl rfl | exact Or.inr rfl) (b_f N_probe G_probe (hr.mono (by first | decide | omega)) (ba_c (bv 7) ba_nil rfl)))
    (bss_cons (bs_set (i := 15) sc_law.nd rfl (by first | exact Or.inl rfl | exact Or.inr rfl) (b_f N_probe G_probe (hr.mono (by first | decide | omega)) (ba_c (b_op o_add (bv 7) b_int) ba_nil rfl)))
    (bss_cons (bs_set (i := 10) sc_law.nd rfl (by first | exact Or.inl rfl | exact Or.inr rfl) (b_f N__law_place G__law_place (hr.mono (by first | decide | omega)) (ba_c (b_ix ix_seq (bv 9) b_int (fun _ _ => rfl)) (ba_c (bv 13) (ba_c (bv 7) ba_nil rfl) rfl) rfl)))
    (bss_cons (bs_if (bt_w (bw_or (bt_cmp (o_neD (room100 hr)) (b_callV rfl rfl rfl rfl rfl (hr.mono (by first | decide | omega) : Room 1 _) (bv 14) (ba_c (b_ix ix_seq (bv 9) b_int (fun _ _ => rfl)) (ba_c (bv 13) ba_nil rfl) rfl)) (bv 10) (nomark _)) (bw_or1 (bt_cmp (o_neD (room100 hr)) (b_callV rfl rfl rfl rfl rfl (hr.mono (by first | decide | omega) : Room 1 _) (bv 15) (ba_c (b_ix ix_seq (bv 9) b_int (fun _ _ => rfl)) (ba_c (bv 13) ba_nil rfl) rfl)) (b_f N__law_place G__law_place (hr.mono (by first | decide | omega)) (ba_c (b_ix ix_seq (bv 9) b_int (fun _ _ => rfl)) (ba_c (bv 13) (ba_c (b_op o_add (bv 7) b_int) ba_nil rfl) rfl) rfl)) (nomark _)))))
      (bss_one (bs_ret b_bl))
      bss_nil)
    (bss_one (bs_ret (b_and (b_cmp (o_eqD (room100 hr)) (b_callV rfl rfl rfl rfl rfl (hr.mono (by first | decide | omega) : Room 1 _) (bv 14) (ba_c (b_ix ix_seq (bv 9) b_int (fun _ _ => rfl)) (ba_c (bv 13) ba_nil rfl) rfl)) (bv 10) (nomark _)) (b_one (b_f N__law_whole G__law_whole (hr.mono (by first | decide | omega)) (ba_c (b_callV rfl rfl rfl rfl rfl (hr.mono (by first | decide | omega) : Room 1 _) (bv 14) (ba_c (b_ix ix_seq (bv 9) b_int (fun _ _ => rfl)) (ba_c (bv 13) ba_nil rfl) rfl)) ba_nil rfl)))))))))))))))))))))))))), ?_⟩
    kas_types
    lcg_off
    refine keys_use hS hn (fun pk H1 ks hpk s1 hk hkl => ?_)
    lcg_off
    rename_i ph H2 hph s2 hh
    refine sieveof_use ks hh (by omega) (tok.same (Same.tr s2 s1)) (fun t H3 s3 t3 ht => ?_)
    obtain ⟨qs, hT⟩ := (tok.same (Same.tr s2 s1)).tbl
    have s3n := s3.toN hT
    have hk3 := s3n _ _ (s2 _ _ hk) (fun _ z => by cases z)
    have hh3 := s3n _ _ hh (fun _ z => by cases z)
    have hS3 := SqL.sameN ((hS.same s1).same s2) s3n
    lcg_off
    refine unlike_use ks hk3 (by omega) (fun pu H4 hpu s4 hu => ?_)
    lcg_off
    rename_i pF H5 hpF s5 hF5
    rw [List.length_map] at *
    have hol := SW.onces_le ks
    have hszE : max 8 (8 * ((SW.onces ks).length : Int)) = szM ks := by unfold szM; omega
    have hsz0 : 0 < szM ks := by unfold szM; omega
    have hsz1 : szM ks ≤ 1600 := by unfold szM; omega
    rw [hszE]
    refine rd_repL hF5 (by omega) (by omega) (by rw [sizeLine_eq]; simp; omega) (fun pm H6 hpm s6 h6 => ?_)
    rw [show (List.replicate (szM ks).toNat [V.bl false]).flatten = (List.replicate (szM ks).toNat false).map V.bl by
      rw [List.map_replicate]
      induction (szM ks).toNat with
      | zero => rfl
      | succ n ih => rw [List.replicate_succ, List.flatten_cons, ih, List.replicate_succ]; rfl] at h6
    have mk := marks_keys hsz0 ks (List.replicate (szM ks).toNat false) (by simp)
    rw [List.length_replicate, natS_false] at mk
    generalize hszg : szM ks = sz at *
    have s36 : Same H3 H6 := Same.tr s6 (Same.tr s5 s4)
    have hm3 : H3 pm = none := Same.free (Same.tr s5 s4) hpm
    have hpk : pk ≠ pm := fun e => by rw [e, hm3] at hk3; cases hk3
    clear s4 s5 s6 hF5 hu hpu hpF s1 s2 hk hh hpm
    lcg_off
    refine forL (xs := ks.map V.str) (fun i σ F => ∃ (o6 o7 : Option V), σ = [some (.ref a), some (.ref pk), some (.ref ph), some (.ref t), some (.int sz), some (.ref pm), o6, o7, none, none, none, none, none, none, none, none] ∧ Same H3 F ∧ F pm = some (.lst (((ks.take i).foldl (markM sz) (List.replicate sz.toNat false)).map V.bl)))
      ⟨none, none, rfl, s36, h6⟩ (fun i σ F h => by obtain ⟨_, _, _, g, _⟩ := h; exact SqL.of (g _ _ hk3)) (fun i x σ F hi hx h => ?_) (fun σ F h => ?_)
    · obtain ⟨o6, o7, rfl, g1, g2⟩ := h
      rw [List.getElem?_map] at hx
      obtain ⟨z, hzi, rfl⟩ := Option.map_eq_some_iff.mp hx
      obtain ⟨hzl, hze⟩ := List.getElem?_eq_some_iff.mp hzi
      have ht1 : (ks.take (i + 1)).foldl (markM sz) (List.replicate sz.toNat false) = markM sz ((ks.take i).foldl (markM sz) (List.replicate sz.toNat false)) z := by
        rw [List.take_succ_eq_append_getElem hzl, hze, List.foldl_append]
        rfl
      have hml := (marks_keys hsz0 (ks.take i) (List.replicate sz.toNat false) (by simp)).2
      rw [List.length_replicate] at hml
      generalize (ks.take i).foldl (markM sz) (List.replicate sz.toNat false) = ms at *
      lcg_off
      rename_i pt F1 sF hF1
      have m0 := sF _ _ g2
      have hb : ∀ f : Int, 0 ≤ numM f z.cps.toList % sz ∧ (numM f z.cps.toList % sz).toNat < ms.length := fun f => by
        have h0 := Int.emod_nonneg (numM f z.cps.toList) (show sz ≠ 0 by omega)
        have h1 := Int.emod_lt_of_pos (numM f z.cps.toList) hsz0
        omega
      refine forT (xs := ([31, 37, 41] : List Int).map V.int) (fun j σ G => ∃ (o7 : Option V), σ = [some (.ref a), some (.ref pk), some (.ref ph), some (.ref t), some (.int sz), some (.ref pm), some (.str z), o7, none, none, none, none, none, none, none, none] ∧ Same H3 G ∧ G pt = some (.tup [.int 31, .int 37, .int 41]) ∧ G pm = some (.lst ((((placesM z sz).take j).foldl (fun m p => m.set p.toNat true) ms).map V.bl)))
        ⟨_, rfl, Same.tr sF g1, hF1, m0⟩ (fun j σ G h => by obtain ⟨_, _, _, e, _⟩ := h; exact SqT.of e) (fun j x σ G hj hx h => ?_) (fun σ G h => ?_)
      · obtain ⟨o7, rfl, g3, g4, g5⟩ := h
        rw [List.getElem?_map] at hx
        obtain ⟨f, hf, rfl⟩ := Option.map_eq_some_iff.mp hx
        have hf3 : f = 31 ∨ f = 37 ∨ f = 41 := by simpa using List.mem_of_getElem? hf
        have hpl : (placesM z sz)[j]? = some (numM f z.cps.toList % sz) := by
          unfold placesM
          rw [List.getElem?_map, hf]
          rfl
        obtain ⟨hpl1, hpl2⟩ := List.getElem?_eq_some_iff.mp hpl
        have hj1 : ((placesM z sz).take (j + 1)).foldl (fun (m : List Bool) (p : Int) => m.set p.toNat true) ms = (((placesM z sz).take j).foldl (fun (m : List Bool) (p : Int) => m.set p.toNat true) ms).set (numM f z.cps.toList % sz).toNat true := by
          rw [List.take_succ_eq_append_getElem hpl1, hpl2, List.foldl_append]
          rfl
        have hlm : ∀ (ps : List Int) (m : List Bool), (ps.foldl (fun (m : List Bool) (p : Int) => m.set p.toNat true) m).length = m.length := fun ps => by
          induction ps with
          | nil => exact fun m => rfl
          | cons p ps ih => exact fun m => by rw [List.foldl_cons, ih, List.length_set]
        have hl2 := hlm ((placesM z sz).take j) ms
        generalize ((placesM z sz).take j).foldl (fun (m : List Bool) (p : Int) => m.set p.toNat true) ms = m2 at *
        obtain ⟨b0, b1⟩ := hb f
        lcg_off
        refine place_use hsz0 (by omega) ?_
        rw [show numM f z.cps.toList % sz = (((numM f z.cps.toList % sz).toNat : Nat) : Int) by omega]
        lcg_off
        refine rd_setL g5 (by rw [List.length_map, hl2]; exact b1) ?_
        lcg_off
        have nt : pt ≠ pm := fun e => by rw [e, g5] at g4; cases g4
        refine ⟨_, rfl, same_updL g3 hm3, ?_, ?_⟩
        · rw [upd_ne nt]
          exact g4
        · rw [upd_same, hj1, List.map_set]
      · obtain ⟨o7, rfl, g3, g4, g5⟩ := h
        refine ⟨_, _, rfl, g3, ?_⟩
        rw [ht1]
        exact g5
    · obtain ⟨o6, o7, rfl, g1, g2⟩ := h
      rw [List.length_map, List.take_length] at g2
      have tF := t3.same g1
      have hkF := g1 _ _ hk3
      have hhF := g1 _ _ hh3
      have htF := g1 _ _ ht
      have hSF := hS3.same g1
      obtain ⟨mk1, mk2⟩ := mk
      have hin : ∀ z ∈ ks, mayM ((natS (ks.foldl (markM sz) (List.replicate sz.toNat false)) sz.toNat : Nat) : Int) (placesM z sz) = true := fun z hz => by
        obtain ⟨m, e1, e2, _⟩ := siev_nat (sz := sz) ks 0
        rw [← mk1, e1]
        unfold mayM
        rw [List.all_eq_true]
        intro p hp
        rw [bit_test]
        exact e2 z hz p hp
      rw [Int.natCast_zero] at mk1
      rw [mk1] at htF
      generalize ks.foldl (markM sz) (List.replicate sz.toNat false) = ms at *
      clear h6 s36 hhF mk1 ht s3 s3n hT
      have hhF := g1 _ _ hh3
      lcg_off
      rw [if_neg (by simp)]
      lcg_off
      refine whole_use ?_
      lcg_off
      refine whole_use ?_
      lcg_off
      refine bits_lc rfl g2 mk2 (by omega) (fun bs pb F1 hbs hpb sF1 hF1 => ?_)
      lcg_off
      refine rd_sumI bs (SqL.of hF1) ?_
      rw [hbs]
      lcg_off
      rename_i pq F2 sF2 hF2
      refine ne_pair (sF2 _ _ (sF1 _ _ htF)) hF2 ?_
      lcg_off
      have sFF : Same F F2 := Same.tr sF2 sF1
      refine ne_strs ks (sFF _ _ hhF) (sFF _ _ hkF) ?_
      lcg_off
      refine rd_slL (SqL.of (sFF _ _ hkF)) (fun p25 F3 hp25 sF3 hF3 => ?_)
      rw [cutV_25] at hF3
      lcg_off
      refine lcWr (fun i us G => G = F3 ∧ ∃ js : List Str, us = js.map V.str ∧ js.length = i) (by rw [sizeLine_eq]; decide) ⟨rfl, [], rfl, rfl⟩ (fun i us G h => by obtain ⟨_, js, rfl, e⟩ := h; rw [List.length_map, e]) (fun i us G hi h => ?_) (fun us pw G F4 h hpw sF4 hF4 => ?_)
      · obtain ⟨rfl, js, rfl, e⟩ := h
        lcg_off
        refine cell_use (k := 3) (hSF.same (Same.tr sF3 sFF)) rfl ?_
        lcg_off
        refine mixed_use ?_
        lcg_off
        refine word_use (by decide) (by decide) (by decide) (fun z _ _ => ?_)
        exact ⟨rfl, js ++ [z], by rw [List.map_append]; rfl, by rw [List.length_append, e]; rfl⟩
      obtain ⟨rfl, js, rfl, hjs⟩ := h
      have hjs6 : js.length = 6 := hjs
      lcg_off
      refine .inr (.inr (.inl ⟨p25, pw, _, _, rfl, rfl, sF4 _ _ hF3, hF4, by rw [List.length_map, List.length_map, List.length_take, sizeLine_eq]; omega, fun ps hps => ?_⟩))
      rw [← List.map_append]
      have hsl : 0 < (ks.take 25 ++ js).length ∧ (ks.take 25 ++ js).length ≤ 31 := by rw [List.length_append, List.length_take]; omega
      generalize ks.take 25 ++ js = ss at *
      have s5 : Same F4 (upd F4 ps (.lst (ss.map V.str))) := same_new hps
      have h5 : upd F4 ps (.lst (ss.map V.str)) ps = some (.lst (ss.map V.str)) := upd_same
      generalize upd F4 ps (.lst (ss.map V.str)) = G at *
      have sG : Same F G := Same.tr s5 (Same.tr sF4 (Same.tr sF3 sFF))
      have hkG := sG _ _ hkF
      have htG := sG _ _ htF
      have hmG := sG _ _ g2
      have hSG := hSF.same sG
      have tG := tF.same sG
      clear hS3 hm3 hpk g1 tF hkF hSF g2 htF hhF hF1 hpb sF1 sF2 hF2 sFF hp25 sF3 hF3 hpw sF4 hF4 hps s5 sG hk3 hh3 t3
      obtain ⟨rs, hTG⟩ := tG.tbl
      lcg_off
      refine forL (xs := ss.map V.str) (fun i σ F => ∃ (o6 o7 o10 o11 : Option V), σ = [some (.ref a), some (.ref pk), some (.ref ph), some (.ref t), some (.int sz), some (.ref pm), o6, o7, some (.int ((natS ms sz.toNat : Nat) : Int)), some (.ref ps), o10, o11, none, none, none, none] ∧ SameB tabP G F ∧ TOk2 F)
        ⟨_, _, _, _, rfl, SameB.refl, tG⟩ (fun i σ F h => by obtain ⟨_, _, _, _, _, g, _⟩ := h; exact SqL.of (g.toN hTG _ _ h5 (fun _ z => by cases z))) (fun i x σ F hi hx h => ?_) (fun σ F h => ?_)
      · obtain ⟨o6, o7, o10, o11, rfl, g1, g2⟩ := h
        have g1n := g1.toN hTG
        rw [List.getElem?_map] at hx
        obtain ⟨z, hzi, rfl⟩ := Option.map_eq_some_iff.mp hx
        have hdm := due_may (z := z) hsz0 mk2
        rw [mk2] at hdm
        lcg_off
        rename_i pt F1 sF1 hF1
        refine due_lc rfl hsz0 (sF1 _ _ (g1n _ _ hmG (fun _ z => by cases z))) mk2 hF1 (fun pu F2 hpu sF2 hF2 => ?_)
        lcg_off
        rename_i pe F3 hpe sF3 hF3
        refine eq_nilI _ (sF3 _ _ hF2) hF3 ?_
        rw [hdm]
        have s3 : Same F F3 := Same.tr sF3 (Same.tr sF2 sF1)
        lcg_off
        refine may_use (s3 _ _ (g1n _ _ htG (fun _ z => by cases z))) hsz0 (by omega) (g2.same s3) (fun F4 sF4 tF4 => ?_)
        have g1' : SameB tabP G F4 := (g1.trans (.of s3)).trans sF4
        have hin' := hin z
        generalize mayM ((natS ms sz.toNat : Nat) : Int) (placesM z sz) = bv at *
        lcg_off
        refine rd_inS (SqL.of (g1'.toN hTG _ _ hkG (fun _ z => by cases z))) ?_
        lcg_off
        by_cases c : z ∈ ks
        · rw [if_pos (by simpa using c)]
          rw [hin' c]
          lcg_off
          exact ⟨_, _, _, _, rfl, g1', tF4⟩
        · rw [if_neg (by simpa using c)]
          lcg_off
          exact ⟨_, _, _, _, rfl, g1', tF4⟩
      · obtain ⟨o6, o7, o10, o11, rfl, g1, g2⟩ := h
        have g1n := g1.toN hTG
        have hsF := g1n _ _ h5 (fun _ z => by cases z)
        have hSF := SqL.sameN hSG g1n
        clear hin hmG htG hkG h5 hSG tG g1n g1 hTG
        lcg_off
        obtain ⟨m, hmn⟩ : ∃ m : Nat, (min sz 160).toNat = m := ⟨_, rfl⟩
        have hm0 : 0 < m ∧ m ≤ 160 := by omega
        rw [hmn]
        refine lcWr (fun i us G => G = F ∧ ∃ js : List Bool, us = js.map V.bl ∧ js.length = i) (by rw [sizeLine_eq]; omega) ⟨rfl, [], rfl, rfl⟩ (fun i us G h => by obtain ⟨_, js, rfl, e⟩ := h; rw [List.length_map, e]) (fun i us G hi h => ?_) (fun us pe G F1 h hpe sF1 hF1 => ?_)
        · obtain ⟨rfl, js, rfl, e⟩ := h
          lcg_off
          refine cell_use (k := 3) hSF rfl ?_
          lcg_off
          refine mixed_use ?_
          lcg_off
          exact ⟨rfl, js ++ [_], by rw [List.map_append]; rfl, by rw [List.length_append, e]; rfl⟩
        obtain ⟨rfl, hs, rfl, hhl⟩ := h
        lcg_off
        rw [List.length_map]
        lcg_off
        rw [Int.toNat_natCast]
        refine bits_lc rfl hF1 rfl (by omega) (fun bs pb F2 hbs hpb sF2 hF2 => ?_)
        lcg_off
        refine rd_sumI bs (SqL.of hF2) ?_
        rw [hbs]
        have s2 : Same G F2 := Same.tr sF2 sF1
        have hsF2 := s2 _ _ hsF
        have hSF2 := hSF.same s2
        have hH2 := sF2 _ _ hF1
        have tF2 := g2.same s2
        clear hsF hSF hF1 hpe sF1 sF2 s2 g2 hF2 hpb hbs
        obtain ⟨rs, hT2⟩ := tF2.tbl
        lcg_off
        refine forL (xs := ss.map V.str) (fun i σ F => ∃ (o6 o7 o10 o11 : Option V), σ = [some (.ref a), some (.ref pk), some (.ref ph), some (.ref t), some (.int sz), some (.ref pm), o6, o7, some (.int ((natS hs hs.length : Nat) : Int)), some (.ref ps), o10, o11, some (.ref pe), none, none, none] ∧ SameB tabP F2 F ∧ TOk2 F)
          ⟨_, _, _, _, rfl, SameB.refl, tF2⟩ (fun i σ F h => by obtain ⟨_, _, _, _, _, g, _⟩ := h; exact SqL.of (g.toN hT2 _ _ hsF2 (fun _ z => by cases z))) (fun i x σ F hi hx h => ?_) (fun σ F h => ?_)
        · obtain ⟨o6, o7, o10, o11, rfl, g1, g2⟩ := h
          have g1n := g1.toN hT2
          rw [List.getElem?_map] at hx
          obtain ⟨z, hzi, rfl⟩ := Option.map_eq_some_iff.mp hx
          have hl0 : (0 : Int) < (hs.length : Int) := by omega
          have hdm := due_may (z := z) hl0 (Int.toNat_natCast _).symm
          lcg_off
          rename_i pt F1 sF1 hF1
          refine due_lcH rfl hl0 (sF1 _ _ (g1n _ _ hH2 (fun _ z => by cases z))) rfl hF1 (fun pu Fu hpu sF2 hF2 => ?_)
          lcg_off
          rename_i pz F3 hpz sF3 hF3
          refine eq_nilI _ (sF3 _ _ hF2) hF3 ?_
          rw [hdm]
          have s3 : Same F F3 := Same.tr sF3 (Same.tr sF2 sF1)
          have hH3 := s3 _ _ (g1n _ _ hH2 (fun _ z => by cases z))
          lcg_off
          rename_i pq F4 sF4 hF4
          rw [List.length_map] at hF4
          have s4 : Same F F4 := Same.tr sF4 s3
          refine may_use hF4 hl0 (by omega) (g2.same s4) (fun F5 sF5 tF5 => ?_)
          have g1' : SameB tabP F2 F5 := (g1.trans (.of s4)).trans sF5
          generalize mayM ((natS hs hs.length : Nat) : Int) (placesM z hs.length) = bv at *
          lcg_off
          exact ⟨_, _, _, _, rfl, g1', tF5⟩
        · obtain ⟨o6, o7, o10, o11, rfl, g1, g2⟩ := h
          have g1n := g1.toN hT2
          have hsF := g1n _ _ hsF2 (fun _ z => by cases z)
          have hSF := SqL.sameN hSF2 g1n
          clear hsF2 hSF2 hH2 tF2 hT2 g1n g1
          lcg_off
          refine cell_use (k := 0) hSF rfl ?_
          have c0 := Int.emod_nonneg (ns.getD 0 0) (show (999 : Int) ≠ 0 by decide)
          have c1 := Int.emod_lt_of_pos (ns.getD 0 0) (show (0 : Int) < 999 by decide)
          lcg_off
          have hfa1 : 1 ≤ 1 + ns.getD 0 0 % 999 ∧ 1 + ns.getD 0 0 % 999 ≤ 999 := by omega
          generalize 1 + ns.getD 0 0 % 999 = fa at *
          refine cell_use (k := 1) hSF rfl ?_
          lcg_off
          rename_i pl F1 hpl s1 h1
          refine cell_use (k := 1) (hSF.same s1) rfl ?_
          lcg_off
          refine rd_pick (SqL.of h1) (Int.emod_nonneg _ (by decide)) (Int.emod_lt_of_pos _ (by decide)) (fun u hu => ?_)
          obtain ⟨n, rfl, hn1, hn2⟩ : ∃ n : Int, u = .int n ∧ 0 < n ∧ n ≤ 1000000 := by
            simp only [List.mem_cons, List.not_mem_nil, or_false] at hu
            rcases hu with rfl | rfl | rfl <;> exact ⟨_, rfl, by decide, by decide⟩
          clear hu
          have f0 := Int.emod_nonneg (ns.getD 1 0) (show n ≠ 0 by omega)
          have f1 := Int.emod_lt_of_pos (ns.getD 1 0) hn1
          have hfar : 0 < 1 + ns.getD 1 0 % n := by omega
          lcg_off
          generalize 1 + ns.getD 1 0 % n = far at *
          clear f0 f1
          have t1 := g2.same s1
          have hs1 := s1 _ _ hsF
          obtain ⟨z, hz⟩ : ∃ z, ss[0]? = some z := ⟨ss[0]'hsl.1, List.getElem?_eq_getElem _⟩
          have hz' : (ss.map V.str)[0]? = some (.str z) := by rw [List.getElem?_map, hz]; rfl
          refine ⟨.int fa, rfl, t1, fun ff c' cc Ha hff hcc sa ta a1 a2 a3 => ?_⟩
          obtain ⟨qa, hTa⟩ := t1.tbl
          have hsa := sa.toN hTa _ _ hs1 (fun _ z => by cases z)
          lcg_off
          refine ⟨.int (fa + 1), rfl, ta, fun fg d' dc Hb hfg hdc sb tb b1 b2 b3 => ?_⟩
          obtain ⟨qb, hTb⟩ := ta.tbl
          have hsb := sb.toN hTb _ _ hsa (fun _ z => by cases z)
          have a1' := sb.toN hTb _ _ a1 (fun _ z => by cases z)
          have a2' := sb.toN hTb _ _ a2 (fun _ z => by cases z)
          have a3' := sb.toN hTb _ _ a3 (fun _ z => by cases z)
          have ia : IsClo Hb ff := ⟨_, _, _, _, _, _, _, a1'⟩
          have ib : IsClo Hb fg := ⟨_, _, _, _, _, _, _, b1⟩
          clear a1 a2 a3 sb sa hsa hs1 hsF
          lcg_off
          refine rd_ixL (SqL.of hsb) (atI_nat (j := 0) hz') ?_
          lcg_off
          refine place_use hfar (by omega) ?_
          lcg_off
          refine ⟨ff, rfl, ia, ?_⟩
          lcg_off
          refine rd_ixL (SqL.of hsb) (atI_nat (j := 0) hz') ?_
          lcg_off
          refine ⟨ia, place_run T hfar (by omega) a1' a2' a3' ?_⟩
          lcg_off
          rw [if_neg (by simp)]
          lcg_off
          refine ⟨fg, rfl, ib, ?_⟩
          lcg_off
          refine rd_ixL (SqL.of hsb) (atI_nat (j := 0) hz') ?_
          lcg_off
          refine ⟨ib, place_run T hfar (by omega) b1 b2 b3 ?_⟩
          lcg_off
          refine rd_ixL (SqL.of hsb) (atI_nat (j := 0) hz') ?_
          lcg_off
          refine place_use hfar (by omega) ?_
          lcg_off
          rw [if_neg (by simp)]
          lcg_off
          refine ⟨ff, rfl, ia, ?_⟩
          lcg_off
          refine rd_ixL (SqL.of hsb) (atI_nat (j := 0) hz') ?_
          lcg_off
          refine ⟨ia, place_run T hfar (by omega) a1' a2' a3' ?_⟩
          lcg_off
          rw [if_pos (by simp)]
          lcg_off
          refine ⟨ff, rfl, ia, ?_⟩
          lcg_off
          refine rd_ixL (SqL.of hsb) (atI_nat (j := 0) hz') ?_
          lcg_off
          refine ⟨ia, place_run T hfar (by omega) a1' a2' a3' ?_⟩
          lcg_off
          refine whole_use ?_
          lcg_off
          exact k _
end
theorem all_mk {l : PySem.W.OpenLaw} {w : World} {K : PySem.W.Frag} {h : Heap} {mg : Str → Option Value} {fa f1 f2 f3 f4 f5 f6 f7 f8 f9 f10 f11 f12 : Addr} (X : K.In h) (G : h.Ns mainGlobals mg) (hfa : mg "law" = some (.ref fa))
    {od1 an1 : Option Addr} {sl1 : Array (Option Value)} {oc1 kV1 dc1 pm1 ct1 : Value}
    {od2 an2 : Option Addr} {sl2 : Array (Option Value)} {oc2 kV2 dc2 pm2 cd2 ct2 : Value}
    {od3 an3 : Option Addr} {sl3 : Array (Option Value)} {oc3 kV3 dc3 pm3 cd3 ct3 : Value}
    {od4 an4 : Option Addr} {sl4 : Array (Option Value)} {oc4 kV4 dc4 pm4 cd4 ct4 : Value}
    {od5 an5 : Option Addr} {sl5 : Array (Option Value)} {oc5 kV5 dc5 pm5 cd5 ct5 : Value}
    {od6 an6 : Option Addr} {sl6 : Array (Option Value)} {oc6 kV6 dc6 pm6 cd6 ct6 : Value}
    {od7 an7 : Option Addr} {sl7 : Array (Option Value)} {oc7 kV7 dc7 pm7 cd7 ct7 : Value}
    {od8 an8 : Option Addr} {sl8 : Array (Option Value)} {oc8 kV8 dc8 pm8 cd8 ct8 : Value}
    {od9 an9 : Option Addr} {sl9 : Array (Option Value)} {oc9 kV9 dc9 pm9 cd9 ct9 : Value}
    {od10 an10 : Option Addr} {sl10 : Array (Option Value)} {oc10 kV10 dc10 pm10 cd10 ct10 : Value}
    {od11 an11 : Option Addr} {sl11 : Array (Option Value)} {oc11 kV11 dc11 pm11 cd11 ct11 : Value}
    {od12 an12 : Option Addr} {sl12 : Array (Option Value)} {oc12 kV12 dc12 pm12 cd12 ct12 : Value}
    {tk0 : Tok}
    {tk1 : Tok}
    {cdA1 : Addr}
    (a1 : PySem.W.nsIn K mainGlobals "probe" = some (some (.ref f1))) (l1 : K.lookup f1 = some ⟨oc1, od1, .func (PySem.W.fnOf "probe" "probe" (defArgs s_probe) (defBody s_probe) (defScope s_probe) .none kV1 dc1 pm1 an1 (.ref cdA1) ct1), sl1⟩) (c1 : PySem.W.codeIn K (.ref cdA1) "probe" = true) (k1 : PySem.W.keepIn K (.ref f1) = true)
    (ch1 : PySem.W.codeHdIn K cdA1 tabP = true)
    (a2 : PySem.W.nsIn K mainGlobals "places_of" = some (some (.ref f2))) (l2 : K.lookup f2 = some ⟨oc2, od2, .func (PySem.W.fnOf "places_of" "places_of" (defArgs s_places_of) (defBody s_places_of) (defScope s_places_of) .none kV2 dc2 pm2 an2 cd2 ct2), sl2⟩) (c2 : PySem.W.codeIn K cd2 "places_of" = true) (k2 : PySem.W.keepIn K (.ref f2) = true)
    (a3 : PySem.W.nsIn K mainGlobals "sieve_of" = some (some (.ref f3))) (l3 : K.lookup f3 = some ⟨oc3, od3, .func (PySem.W.fnOf "sieve_of" "sieve_of" (defArgs s_sieve_of) (defBody s_sieve_of) (defScope s_sieve_of) .none kV3 dc3 pm3 an3 cd3 ct3), sl3⟩) (c3 : PySem.W.codeIn K cd3 "sieve_of" = true) (k3 : PySem.W.keepIn K (.ref f3) = true)
    (a4 : PySem.W.nsIn K mainGlobals "may_have" = some (some (.ref f4))) (l4 : K.lookup f4 = some ⟨oc4, od4, .func (PySem.W.fnOf "may_have" "may_have" (defArgs s_may_have) (defBody s_may_have) (defScope s_may_have) .none kV4 dc4 pm4 an4 cd4 ct4), sl4⟩) (c4 : PySem.W.codeIn K cd4 "may_have" = true) (k4 : PySem.W.keepIn K (.ref f4) = true)
    (a5 : PySem.W.nsIn K mainGlobals "_law_whole" = some (some (.ref f5))) (l5 : K.lookup f5 = some ⟨oc5, od5, .func (PySem.W.fnOf "_law_whole" "_law_whole" (defArgs s__law_whole) (defBody s__law_whole) (defScope s__law_whole) .none kV5 dc5 pm5 an5 cd5 ct5), sl5⟩) (c5 : PySem.W.codeIn K cd5 "_law_whole" = true) (k5 : PySem.W.keepIn K (.ref f5) = true)
    (a6 : PySem.W.nsIn K mainGlobals "_law_cell_at" = some (some (.ref f6))) (l6 : K.lookup f6 = some ⟨oc6, od6, .func (PySem.W.fnOf "_law_cell_at" "_law_cell_at" (defArgs s__law_cell_at) (defBody s__law_cell_at) (defScope s__law_cell_at) .none kV6 dc6 pm6 an6 cd6 ct6), sl6⟩) (c6 : PySem.W.codeIn K cd6 "_law_cell_at" = true) (k6 : PySem.W.keepIn K (.ref f6) = true)
    (a7 : PySem.W.nsIn K mainGlobals "_law_mixed" = some (some (.ref f7))) (l7 : K.lookup f7 = some ⟨oc7, od7, .func (PySem.W.fnOf "_law_mixed" "_law_mixed" (defArgs s__law_mixed) (defBody s__law_mixed) (defScope s__law_mixed) .none kV7 dc7 pm7 an7 cd7 ct7), sl7⟩) (c7 : PySem.W.codeIn K cd7 "_law_mixed" = true) (k7 : PySem.W.keepIn K (.ref f7) = true)
    (a8 : PySem.W.nsIn K mainGlobals "_law_word" = some (some (.ref f8))) (l8 : K.lookup f8 = some ⟨oc8, od8, .func (PySem.W.fnOf "_law_word" "_law_word" (defArgs s__law_word) (defBody s__law_word) (defScope s__law_word) .none kV8 dc8 pm8 an8 cd8 ct8), sl8⟩) (c8 : PySem.W.codeIn K cd8 "_law_word" = true) (k8 : PySem.W.keepIn K (.ref f8) = true)
    (a9 : PySem.W.nsIn K mainGlobals "_law_place" = some (some (.ref f9))) (l9 : K.lookup f9 = some ⟨oc9, od9, .func (PySem.W.fnOf "_law_place" "_law_place" (defArgs s__law_place) (defBody s__law_place) (defScope s__law_place) .none kV9 dc9 pm9 an9 cd9 ct9), sl9⟩) (c9 : PySem.W.codeIn K cd9 "_law_place" = true) (k9 : PySem.W.keepIn K (.ref f9) = true)
    (a10 : PySem.W.nsIn K mainGlobals "_law_keys" = some (some (.ref f10))) (l10 : K.lookup f10 = some ⟨oc10, od10, .func (PySem.W.fnOf "_law_keys" "_law_keys" (defArgs s__law_keys) (defBody s__law_keys) (defScope s__law_keys) .none kV10 dc10 pm10 an10 cd10 ct10), sl10⟩) (c10 : PySem.W.codeIn K cd10 "_law_keys" = true) (k10 : PySem.W.keepIn K (.ref f10) = true)
    (a11 : PySem.W.nsIn K mainGlobals "_law_unlike" = some (some (.ref f11))) (l11 : K.lookup f11 = some ⟨oc11, od11, .func (PySem.W.fnOf "_law_unlike" "_law_unlike" (defArgs s__law_unlike) (defBody s__law_unlike) (defScope s__law_unlike) .none kV11 dc11 pm11 an11 cd11 ct11), sl11⟩) (c11 : PySem.W.codeIn K cd11 "_law_unlike" = true) (k11 : PySem.W.keepIn K (.ref f11) = true)
    (a12 : PySem.W.nsIn K mainGlobals "law" = some (some (.ref f12))) (l12 : K.lookup f12 = some ⟨oc12, od12, .func (PySem.W.fnOf "law" "law" (defArgs s_law) (defBody s_law) (defScope s_law) .none kV12 dc12 pm12 an12 cd12 ct12), sl12⟩) (c12 : PySem.W.codeIn K cd12 "law" = true) (k12 : PySem.W.keepIn K (.ref f12) = true)
    (tb_probe : K.lookup tabP = none)
    {aT_FACTORS : Addr} {tk_FACTORS0 tk_FACTORS1 tk_FACTORS2 : Tok} {odT_FACTORS : Option Addr} {nT_FACTORS : Nat} {slT_FACTORS : Array (Option Value)} (g_FACTORS : PySem.W.nsIn K mainGlobals "FACTORS" = some (some (.ref aT_FACTORS))) (l_FACTORS : K.lookup aT_FACTORS = some ⟨.type "tuple", odT_FACTORS, .seq #[Value.int 31 tk_FACTORS0, Value.int 37 tk_FACTORS1, Value.int 41 tk_FACTORS2] nT_FACTORS, slT_FACTORS⟩)
    (g0 : PySem.W.nsIn K mainGlobals "FIRST_NUMBER" = some (some (Value.int 7 tk0)))
    (g1 : PySem.W.nsIn K mainGlobals "MODULUS" = some (some (Value.int 1000003 tk1)))
    (z0 : PySem.W.nsIn K mainGlobals "all" = some none)
    (z1 : PySem.W.nsIn K mainGlobals "bool" = some none)
    (z2 : PySem.W.nsIn K mainGlobals "int" = some none)
    (z3 : PySem.W.nsIn K mainGlobals "isinstance" = some none)
    (z4 : PySem.W.nsIn K mainGlobals "key" = some none)
    (z5 : PySem.W.nsIn K mainGlobals "len" = some none)
    (z6 : PySem.W.nsIn K mainGlobals "list" = some none)
    (z7 : PySem.W.nsIn K mainGlobals "max" = some none)
    (z8 : PySem.W.nsIn K mainGlobals "min" = some none)
    (z9 : PySem.W.nsIn K mainGlobals "ord" = some none)
    (z10 : PySem.W.nsIn K mainGlobals "place_of" = some none)
    (z11 : PySem.W.nsIn K mainGlobals "range" = some none)
    (z12 : PySem.W.nsIn K mainGlobals "set" = some none)
    (z13 : PySem.W.nsIn K mainGlobals "size" = some none)
    (z14 : PySem.W.nsIn K mainGlobals "str" = some none)
    (z15 : PySem.W.nsIn K mainGlobals "sum" = some none)
    (z16 : PySem.W.nsIn K mainGlobals "tuple" = some none)
    : (∀ p ∈ [tabP], K.lookup p = none ∧ ∃ c, PySem.W.codeHdIn K c p = true) ∧ ∃ fd : FuncData, (∀ (s : Shared) (v : Value), BindsTo s fd ⟨[v], []⟩ [("_law_script", v)]) ∧ ∀ base : Heap, K.In base → base.Ns mainGlobals mg → (∀ p ∈ [tabP], base.BuiltinsAt mg p) → FnOk l.prog w K mg base CX0 5 fa fd ["_law_script"] (spLaw K) := by
  have e := hfa.symm.trans (PySem.W.mg_of X G a12)
  cases e
  have F1 := fun_mk (st := s_probe) l1 c1 k1
  have b1 := F1.binds (ps := ["factor"]) fun _ _ _ _ _ _ us hl => match us, hl with | [_], _ => rfl
  have F2 := fun_mk (st := s_places_of) l2 c2 k2
  have b2 := F2.binds (ps := ["key", "size"]) fun _ _ _ _ _ _ us hl => match us, hl with | [_, _], _ => rfl
  have F3 := fun_mk (st := s_sieve_of) l3 c3 k3
  have b3 := F3.binds (ps := ["keys"]) fun _ _ _ _ _ _ us hl => match us, hl with | [_], _ => rfl
  have F4 := fun_mk (st := s_may_have) l4 c4 k4
  have b4 := F4.binds (ps := ["sieve", "key"]) fun _ _ _ _ _ _ us hl => match us, hl with | [_, _], _ => rfl
  have F5 := fun_mk (st := s__law_whole) l5 c5 k5
  have b5 := F5.binds (ps := ["_law_found"]) fun _ _ _ _ _ _ us hl => match us, hl with | [_], _ => rfl
  have F6 := fun_mk (st := s__law_cell_at) l6 c6 k6
  have b6 := F6.binds (ps := ["_law_script", "_law_k"]) fun _ _ _ _ _ _ us hl => match us, hl with | [_, _], _ => rfl
  have F7 := fun_mk (st := s__law_mixed) l7 c7 k7
  have b7 := F7.binds (ps := ["_law_cell", "_law_k"]) fun _ _ _ _ _ _ us hl => match us, hl with | [_, _], _ => rfl
  have F8 := fun_mk (st := s__law_word) l8 c8 k8
  have b8 := F8.binds (ps := ["_law_cell", "_law_least", "_law_most"]) fun _ _ _ _ _ _ us hl => match us, hl with | [_, _, _], _ => rfl
  have F9 := fun_mk (st := s__law_place) l9 c9 k9
  have b9 := F9.binds (ps := ["_law_key", "_law_size", "_law_factor"]) fun _ _ _ _ _ _ us hl => match us, hl with | [_, _, _], _ => rfl
  have F10 := fun_mk (st := s__law_keys) l10 c10 k10
  have b10 := F10.binds (ps := ["_law_script"]) fun _ _ _ _ _ _ us hl => match us, hl with | [_], _ => rfl
  have F11 := fun_mk (st := s__law_unlike) l11 c11 k11
  have b11 := F11.binds (ps := ["_law_keys_here"]) fun _ _ _ _ _ _ us hl => match us, hl with | [_], _ => rfl
  have F12 := fun_mk (st := s_law) l12 c12 k12
  have b12 := F12.binds (ps := ["_law_script"]) fun _ _ _ _ _ _ us hl => match us, hl with | [_], _ => rfl
  have T : Txt K mg := { g_FACTORS := ⟨_, ⟨_, PySem.W.mg_of X G g_FACTORS, rfl⟩, fun H => .inr ⟨_, _, _, l_FACTORS, rfl, rfl, by simp [sizeLine_eq], .cons ⟨_, rfl⟩ (.cons ⟨_, rfl⟩ (.cons ⟨_, rfl⟩ (.nil)))⟩⟩, f_probe := ⟨_, _, F1, PySem.W.mg_of X G a1, b1⟩, c_probe := ⟨_, _, _, ⟨F1, PySem.W.mg_of X G a1, b1⟩, rfl, ch1⟩, f_places_of := ⟨_, _, F2, PySem.W.mg_of X G a2, b2⟩, f_sieve_of := ⟨_, _, F3, PySem.W.mg_of X G a3, b3⟩, f_may_have := ⟨_, _, F4, PySem.W.mg_of X G a4, b4⟩, f__law_whole := ⟨_, _, F5, PySem.W.mg_of X G a5, b5⟩, f__law_cell_at := ⟨_, _, F6, PySem.W.mg_of X G a6, b6⟩, f__law_mixed := ⟨_, _, F7, PySem.W.mg_of X G a7, b7⟩, f__law_word := ⟨_, _, F8, PySem.W.mg_of X G a8, b8⟩, f__law_place := ⟨_, _, F9, PySem.W.mg_of X G a9, b9⟩, f__law_keys := ⟨_, _, F10, PySem.W.mg_of X G a10, b10⟩, f__law_unlike := ⟨_, _, F11, PySem.W.mg_of X G a11, b11⟩, g_FIRST_NUMBER := ⟨_, PySem.W.mg_of X G g0, ⟨_, rfl⟩⟩, g_MODULUS := ⟨_, PySem.W.mg_of X G g1, ⟨_, rfl⟩⟩, b_all := PySem.W.mg_none_of X G z0, b_bool := PySem.W.mg_none_of X G z1, b_int := PySem.W.mg_none_of X G z2, b_isinstance := PySem.W.mg_none_of X G z3, b_key := PySem.W.mg_none_of X G z4, b_len := PySem.W.mg_none_of X G z5, b_list := PySem.W.mg_none_of X G z6, b_max := PySem.W.mg_none_of X G z7, b_min := PySem.W.mg_none_of X G z8, b_ord := PySem.W.mg_none_of X G z9, b_place_of := PySem.W.mg_none_of X G z10, b_range := PySem.W.mg_none_of X G z11, b_set := PySem.W.mg_none_of X G z12, b_size := PySem.W.mg_none_of X G z13, b_str := PySem.W.mg_none_of X G z14, b_sum := PySem.W.mg_none_of X G z15, b_tuple := PySem.W.mg_none_of X G z16 }
  exact ⟨fun p hp => by obtain rfl := List.mem_singleton.mp hp; exact ⟨tb_probe, _, ch1⟩, _, fun s v => .of_eq rfl, fun base kIn _ hB => ok_law T (hB tabP (by simp)) kIn ⟨F12, PySem.W.mg_of X G a12, b12⟩⟩
theorem walk {l : PySem.W.OpenLaw} {q : Program} {loose : List Str} {XP : (Str → Option Value) → Heap → Prop} {YP : World → Heap → Prop} {d : DefRec} {K : Params → PySem.W.Frag} (hn : l.most = some 63) (hdf : d.params.defaults = [])
    (hY : ∀ (w : World) (h : Heap), YP w h → (K w.params).In h ∧ ∀ p ∈ [tabP], h.get? p = some (PySem.W.tabObj #[]))
    (F : ∀ (w : World) (mg : Str → Option Value) (fa : Addr) (h : Heap), (K w.params).In h → h.Ns mainGlobals mg → mg d.name = some (.ref fa) →
      (∀ p ∈ [tabP], (K w.params).lookup p = none ∧ ∃ c, PySem.W.codeHdIn (K w.params) c p = true) ∧ ∃ fd : FuncData, (∀ (s : Shared) (u : Value), BindsTo s fd ⟨[u], []⟩ [("_law_script", u)]) ∧ ∀ base : Heap, (K w.params).In base → base.Ns mainGlobals mg → (∀ p ∈ [tabP], base.BuiltinsAt mg p) → FnOk l.prog w (K w.params) mg base CX0 5 fa fd ["_law_script"] (spLaw (K w.params))) :
    PySem.W.WalkO q loose XP YP l.row.toRowW d [] (fun f vs => PySem.call f vs) :=
  L2.walk_ofT (n := 63) (ts := [tabP]) (k := 5) (x := "_law_script") (CX := fun _ => CX0) (sp := fun w => spLaw (K w.params)) hn (by decide) hdf ⟨rfl, by decide, by decide⟩ hY F (fun _ _ a ns hl hT hS => ⟨a, ns, rfl, hS, hl, TabOk.start (hT tabP (by simp)), fun _ => rfl⟩) fun _ _ _ _ _ z => z
end T13
open PySem PySem.W PyProof.Rows
set_option maxRecDepth 100000 in
set_option maxHeartbeats 0 in
theorem PySem.Challenge.cw_tierstore_k13_whole_sieves_holds : PySem.Challenge.rw_tierstore_k13_whole_sieves.Holds := by
  w_on; o_law; k_head; (case hw => w_witness2)
  k_fill
  refine T13.walk (l := PySem.Challenge.rw_tierstore_k13_whole_sieves) rfl rfl (fun w h Y => ⟨Y.1, Y.2⟩) ?F
  case F =>
    intro w mg fa h KX G hmg
    refine' T13.all_mk KX G hmg ?xa1 ?xl1 ?xc1 ?xk1 ?xch1 ?xa2 ?xl2 ?xc2 ?xk2 ?xa3 ?xl3 ?xc3 ?xk3 ?xa4 ?xl4 ?xc4 ?xk4 ?xa5 ?xl5 ?xc5 ?xk5 ?xa6 ?xl6 ?xc6 ?xk6 ?xa7 ?xl7 ?xc7 ?xk7 ?xa8 ?xl8 ?xc8 ?xk8 ?xa9 ?xl9 ?xc9 ?xk9 ?xa10 ?xl10 ?xc10 ?xk10 ?xa11 ?xl11 ?xc11 ?xk11 ?xa12 ?xl12 ?xc12 ?xk12 ?xtb_probe ?xg_FACTORS ?xl_FACTORS ?xg0 ?xg1 ?xz0 ?xz1 ?xz2 ?xz3 ?xz4 ?xz5 ?xz6 ?xz7 ?xz8 ?xz9 ?xz10 ?xz11 ?xz12 ?xz13 ?xz14 ?xz15 ?xz16
    (case xa1 => k_is); (case xl1 => k_is); (case xc1 => k_is); (case xk1 => k_is); (case xch1 => kernel_rfl); (case xa2 => k_is)
    (case xl2 => k_is); (case xc2 => k_is); (case xk2 => k_is); (case xa3 => k_is); (case xl3 => k_is); (case xc3 => k_is)
    (case xk3 => k_is); (case xa4 => k_is); (case xl4 => k_is); (case xc4 => k_is); (case xk4 => k_is); (case xa5 => k_is)
    (case xl5 => k_is); (case xc5 => k_is); (case xk5 => k_is); (case xa6 => k_is); (case xl6 => k_is); (case xc6 => k_is)
    (case xk6 => k_is); (case xa7 => k_is); (case xl7 => k_is); (case xc7 => k_is); (case xk7 => k_is); (case xa8 => k_is)
    (case xl8 => k_is); (case xc8 => k_is); (case xk8 => k_is); (case xa9 => k_is); (case xl9 => k_is); (case xc9 => k_is)
    (case xk9 => k_is); (case xa10 => k_is); (case xl10 => k_is); (case xc10 => k_is); (case xk10 => k_is); (case xa11 => k_is)
    (case xl11 => k_is); (case xc11 => k_is); (case xk11 => k_is); (case xa12 => k_is); (case xl12 => k_is); (case xc12 => k_is)
    (case xk12 => k_is); (case xtb_probe => kernel_rfl); (case xg_FACTORS => k_is); (case xl_FACTORS => k_is); (case xg0 => k_is); (case xg1 => k_is)
    (case xz0 => k_is); (case xz1 => k_is); (case xz2 => k_is); (case xz3 => k_is); (case xz4 => k_is); (case xz5 => k_is)
    (case xz6 => k_is); (case xz7 => k_is); (case xz8 => k_is); (case xz9 => k_is); (case xz10 => k_is); (case xz11 => k_is)
    (case xz12 => k_is); (case xz13 => k_is); (case xz14 => k_is); (case xz15 => k_is); (case xz16 => k_is)
