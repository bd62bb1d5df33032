import PyProof.Rows.All
import Wide.All
import OpenK.AllK
import Wide.FinOn
import Lean
import PyProof.EqAt
import PyProof.EqKinds
import PyProof.TupleCall
import PyProof.NeKinds
import PyProof.ListMulRoad
import PyProof.TupleOps
import PyProof.FactsAll.tuple_2
import PyProof.Rows.SeqMore
import KE.KRevSl
import KE.KRevIter
import KE.KIntText
import PyProof.Rows.RuleB_lshift
import PyProof.Rows.StrJoin2
import PyProof.Rows.StrNews2
import PyProof.Rows.FStr
import PyProof.Rows.StrFromFirst
import PyProof.Rows.StrLawsPart
import PyProof.Rows.RegReprOcc
import PyProof.Rows.SetFrom
import PyProof.AutoSeq1
import OpenK.KRaise
import PyProof.Rows.Own
import OpenK.KOwn
import PyProof.ExcBaseAll.ValueError
import KE.KIsAll
import PyProof.ExcInit
import PyProof.ExcClass2
import OpenK.KCls
import OpenK.KWalk
import PySem.Challenge.RW_tierstore_k24_texts_of_runs
set_option Elab.async false
set_option linter.all false
set_option maxRecDepth 100000
namespace L2
open PySem PySem.Spec PyProof.Rows
variable {us:List Value} {x:Str} {u:Value} {a b f dx C:Addr} {P:Program} {w:World} {h h' base:Heap} {e c tg:Expr} {pins:List (Addr × Obj)} {s s':Shared} {t' i j k n:Nat} {ch fp:List Addr} {M:Model} {A:Around} {pos p:Pos} {K:W.Frag} {es:List Expr} {op:CmpOp} {mg:Str->Option Value} {fd:FuncData} {ps:List Str} {kindOf:Str->Option NameKind}
abbrev Key:=Sum Int Str
def qL:Key->Value->Bool
 | .inl k,v=>Value.isInt k v
 | .inr x,v=>Value.isStrOf x v
def RB (w:World):Key->Int
 | .inl k=>hashInt k
 | .inr x=>hashStr w x
theorem cb:∀ {k:Key} {v:Value},qL k v = true->(∃ i t,k = Sum.inl i/\v = Value.int i t) \/ (∃ x t,k = Sum.inr x/\v = Value.str x t)
 | .inl i,v,h=>by
  obtain ⟨t,e⟩:=Value.isInt_shape (k:=i) (v:=v) h;exact .inl ⟨i,t,rfl,e⟩
 | .inr x,v,h=>by
  obtain ⟨t,e⟩:=Value.isStrOf_shape (x:=x) (v:=v) h;exact .inr ⟨x,t,rfl,e⟩
theorem za (i:Int) (t:Tok):qL (.inl i) (.int i t) = true:=by simp [qL,Value.isInt]
theorem y' (x:Str) (t:Tok):qL (.inr x) (.str x t) = true:=by simp [qL,Value.isStrOf]
theorem Ig (a b:Int):decide ((Sum.inl a:Key) = Sum.inl b) = (a == b):=by
 by_cases e:a = b
 ·subst e;simp
 ·have h:¬ (Sum.inl a:Key) = Sum.inl b:=fun q=>e (Sum.inl.inj q)
  rw [decide_eq_false h];exact (beq_eq_false_iff_ne.mpr e).symm
theorem Ib (a b:Str):decide ((Sum.inr a:Key) = Sum.inr b) = decide (a = b):=by
 by_cases e:a = b
 ·subst e;simp
 ·have h:¬ (Sum.inr a:Key) = Sum.inr b:=fun q=>e (Sum.inr.inj q)
  rw [decide_eq_false h,decide_eq_false e]
theorem Ie (a:Int) (b:Str):decide ((Sum.inl a:Key) = Sum.inr b) = false:=decide_eq_false (fun q=>nomatch q)
theorem Ic (a:Str) (b:Int):decide ((Sum.inr a:Key) = Sum.inl b) = false:=decide_eq_false (fun q=>nomatch q)
def cI (prog:Program) (w:World):PySem.KeyKind prog w Key where
 is:=qL
 hash:=RB w
 inj:=fun v a b ha hb=>by
  rcases cb ha with ⟨i,t,rfl,rfl⟩ | ⟨x,t,rfl,rfl⟩
  ·rcases cb hb with ⟨j,u,rfl,e⟩ | ⟨y,u,rfl,e⟩
   ·injection e with e1 _;rw [e1]
   ·exact nomatch e
  ·rcases cb hb with ⟨j,u,rfl,e⟩ | ⟨y,u,rfl,e⟩
   ·exact nomatch e
   ·injection e with e1 _;rw [e1]
 byValue:=fun k v h=>by
  rcases cb h with ⟨i,t,rfl,rfl⟩ | ⟨x,t,rfl,rfl⟩ <;> rfl
 pyHash:=fun hv h=>by
  rcases cb hv with ⟨i,t,rfl,rfl⟩ | ⟨x,t,rfl,rfl⟩
  ·exact wpAny_pyHash_int h
  ·exact wpAny_pyHash_str h
 eqBool:=fun hu hv h=>by
  rcases cb hu with ⟨i,t,rfl,rfl⟩ | ⟨x,t,rfl,rfl⟩
  ·rcases cb hv with ⟨j,u,rfl,rfl⟩ | ⟨y,u,rfl,rfl⟩
   ·rw [Ig] at h;exact wpAny_eqBool_int h
   ·rw [Ie] at h;exact SeqAt.EqAt.int_str i t y u _ _ _ _ h
  ·rcases cb hv with ⟨j,u,rfl,rfl⟩ | ⟨y,u,rfl,rfl⟩
   ·rw [Ic] at h;exact SeqAt.EqAt.str_int x t j u _ _ _ _ h
   ·rw [Ib] at h;exact wpAny_eqBool_str h
 «strs»:=fun k x t v h=>by
  rcases cb h with ⟨i,u,rfl,e⟩ | ⟨y,u,rfl,e⟩
  ·exact nomatch e
  ·injection e with e1 _
   subst e1
   cases v <;> rfl
theorem uB (prog:Program) (w:World) (i:Int) (t:Tok):(cI prog w).is (.inl i) (.int i t) = true:=za i t
theorem uA (prog:Program) (w:World) (x:Str) (t:Tok):(cI prog w).is (.inr x) (.str x t) = true:=y' x t
inductive V where
 | non | bl (b:Bool) | int (i:Int) | str (x:Str) | byt (b:Array UInt8) | flt (b:UInt64) | ref (a:Addr) | ty (n:String)
 deriving DecidableEq
variable {xs:List V} {v:V}
def RelV:V->Value->Prop
 | .non,u=>u = Value.none
 | .bl b,u=>u = Value.bool b
 | .int i,u=>∃ t,u = Value.int i t
 | .str x,u=>∃ t,u = Value.str x t
 | .byt b,u=>∃ t,u = Value.bytes b t
 | .flt b,u=>∃ t,u = Value.float b t
 | .ref a,u=>u = Value.ref a
 | .ty n,u=>u = Value.type n
abbrev Vals:List V->List Value->Prop:=Paired RelV
theorem Vals.length (r:Vals xs us):xs.length = us.length:=Paired.length r
theorem Vals.get:∀ {xs:List V} {us:List Value} {i:Nat} {x:V},Vals xs us->xs[i]? = some x->∃ u,us[i]? = some u/\RelV x u
 | _,_,_,_,.nil,e=>by simp at e
 | _,_,0,_,.cons r _,e=>by simp at e;subst e;exact ⟨_,rfl,r⟩
 | _,_,i + 1,x,.cons _ t,e=>by
  obtain ⟨u,h1,h2⟩:=Vals.get (i:=i) (x:=x) t (by simpa using e);exact ⟨u,by simpa using h1,h2⟩
theorem Vals.set {x:V} {u:Value} (r:RelV x u):∀ {xs:List V} {us:List Value} (i:Nat),Vals xs us->Vals (xs.set i x) (us.set i u)
 | _,_,_,.nil=>.nil
 | _,_,0,.cons _ t=>.cons r t
 | _,_,i + 1,.cons q t=>.cons q (Vals.set r i t)
theorem Vals.append:∀ {xs ys:List V} {us ws:List Value},Vals xs us->Vals ys ws->Vals (xs ++ ys) (us ++ ws)
 | _,_,_,_,.nil,s=>s
 | _,_,_,_,.cons r t,s=>.cons r (Vals.append t s)
theorem Vals.take:∀ {xs:List V} {us:List Value} (n:Nat),Vals xs us->Vals (xs.take n) (us.take n)
 | _,_,0,_=>.nil
 | _,_,_ + 1,.nil=>.nil
 | _,_,n + 1,.cons r t=>.cons r (Vals.take n t)
theorem Vals.drop:∀ {xs:List V} {us:List Value} (n:Nat),Vals xs us->Vals (xs.drop n) (us.drop n)
 | _,_,0,r=>r
 | _,_,_ + 1,.nil=>.nil
 | _,_,n + 1,.cons _ t=>Vals.drop n t
def RelO:Option V->Option Value->Prop
 | some v,some u=>RelV v u
 | none,none=>True
 | _,_=>False
def KV {κ:Type}:List (κ × V)->List (κ × Value)->Prop:=Paired fun (p:κ × V) (q:κ × Value)=>p.1 = q.1/\RelV p.2 q.2
def kV:Key->V
 | .inl i=>.int i
 | .inr x=>.str x
inductive HO where
 | lst (xs:List V)
 | tup (xs:List V)
 | dK (az:List (Key × V)) | dT (az:List (List Key × V))
 | set (S:Int->Bool) (n:Nat)
 | ins (C dx:Addr) (fs:List (Str × V))
 | own (x:Addr)
 | xd (fs:List (Str × V))
 | met (f x:Addr)
 | rng (lo hi:Int)
 | frz (o:Obj) (u:HO)
 | tbl (ps:Array Value)
 | ext (φ:Heap->Prop)
variable {o:HO}
abbrev Hp:=Addr->Option HO
variable {H H':Hp}
def upd (H:Hp) (a:Addr) (o:HO):Hp:=fun b=>if b = a then some o else H b
theorem aC:upd H a o a = some o:=by unfold upd;rw [if_pos rfl]
theorem ay (h:b ≠ a):upd H a o b = H b:=by unfold upd;rw [if_neg h]
theorem Kv {u:HO} (h:H a = some o) (h':H b = some u) (d:o ≠ u):a ≠ b:=by
 intro e;subst e;rw [h] at h';exact d (Option.some.inj h')
theorem cS (h:H a = some o) (h':H b = none):a ≠ b:=by
 intro e;subst e;rw [h] at h';cases h'
section
variable (P:Program) (w:World)
def ObjOk (H:Hp) (h:Heap) (a:Addr):HO->Prop
 | .lst xs=>xs.length <= sizeLine/\∃ (its:List Value) (n:Nat),Vals xs its/\h.get? a = some { cls:=.type "list",data:=.seq its.toArray n }
 | .tup xs=>xs.length <= sizeLine/\∃ its:List Value,Vals xs its/\IsTup h a its.toArray
 | .dK az=>az.length <= sizeLine/\(a == sysModules) = false/\∃ vs,KV az vs/\h.DictOf (cI P w) a vs
 | .dT az => az.length <= sizeLine /\ (a == sysModules) = false /\ ∃ xs : List (List Key × Addr × Value),
     Paired (fun (p:List Key × V) (q:List Key × Addr × Value)=>p.1 = q.1/\H q.2.1 = some (.tup (p.1.map kV))/\RelV p.2 q.2.2) az xs /\
     ∃ o es ep,h.get? a = some o/\o.ExactDict/\o.data = .dict es ep/\es.toList = xs.map (entryOfKey (tupleKind (cI P w)))/\(xs.map (·.1)).Nodup
 | .set S n=>h.SetOf (intKind P w) a S n
 | .ins C dx fs => H dx = some (.own a) /\ fs.length <= 1000 /\ dx ≠ a /\ h.get? a = some (W.instObj C dx) /\
     ∃ mA,h.Ns1 dx mA/\(∀ f,RelO (fs.lookup f) (mA f))/\PySem.Within mA (fs.map (·.1))
 | .own _=>∃ o,h.get? a = some o
 | .xd fs=>∃ mA,h.Ns1 a mA/\∀ f,RelO (fs.lookup f) (mA f)
 | .rng lo hi=>∃ t u v,h.get? a = some { cls:=.type "range",data:=.fields #[.int lo t,.int hi u,.int 1 v] }
 | .frz o u=>h.get? a = some o/\ObjOk H h a u
 | .tbl ps=>h.get? a = some { cls:=.none,data:=.fields ps }
 | .met f x=>h.get? a = some (W.methodObj (.ref f) (.ref x))
 | .ext φ=>φ h/\(∃ o,h.get? a = some o)/\∀ h1 h2:Heap,φ h1->(∀ o,h1.get? a = some o->h2.get? a = some o)->φ h2
def HOk (H:Hp) (h:Heap):Prop:=∀ a o,H a = some o->ObjOk P w H h a o
end
section
theorem ObjOk.lt (x:ObjOk P w H h a o):a < h.objs.size:=by
 cases o with
 | lst xs=>obtain ⟨_,_,_,_,e⟩:=x;exact Heap.lt_size e
 | tup xs=>obtain ⟨_,_,_,p⟩:=x;exact p.lt
 | dK az=>obtain ⟨_,_,_,_,o,_,_,e,_⟩:=x;exact Heap.lt_size e
 | dT az=>obtain ⟨_,_,_,_,o,_,_,e,_⟩:=x;exact Heap.lt_size e
 | set S n=>obtain ⟨o,_,_,_,e,_⟩:=x;exact Heap.lt_size e
 | ins C dx fs=>obtain ⟨_,_,_,e,_⟩:=x;exact Heap.lt_size e
 | own y=>obtain ⟨_,e⟩:=x;exact Heap.lt_size e
 | xd fs=>obtain ⟨_,⟨_,_,_,e,_⟩,_⟩:=x;exact Heap.lt_size e
 | rng lo hi=>obtain ⟨_,_,_,e⟩:=x;exact Heap.lt_size e
 | frz ob u=>obtain ⟨e,_⟩:=x;exact Heap.lt_size e
 | tbl ps=>exact Heap.lt_size (show h.get? a = some _ from x)
 | met f y=>exact Heap.lt_size (show h.get? a = some _ from x)
 | ext φ=>obtain ⟨_,⟨_,e⟩,_⟩:=x;exact Heap.lt_size e
theorem Paired.mapP {α β:Type} {F G:α->β->Prop}:∀ {l₁:List α} {l₂:List β},Paired F l₁ l₂->(∀ a b,F a b->G a b)->Paired G l₁ l₂
 | _,_,.nil,_=>.nil
 | _,_,.cons r t,f=>.cons (f _ _ r) (Paired.mapP t f)
theorem ObjOk.stay (x : ObjOk P w H h a o) (k : ∀ b u, (b = a \/ H b = some (.own a)) -> h.get? b = some u -> h'.get? b = some u)
    (ho:∀ b,H b = some (.own a)->H' b = some (.own a)) (ht:∀ b xs,H b = some (.tup xs)->H' b = some (.tup xs)):ObjOk P w H' h' a o:=by
 induction o with
 | lst xs=>obtain ⟨z,its,n,r,e⟩:=x;exact ⟨z,its,n,r,k _ _ (.inl rfl) e⟩
 | tup xs=>obtain ⟨z,its,r,ob,e,c⟩:=x;exact ⟨z,its,r,ob,k _ _ (.inl rfl) e,c⟩
 | dK az=>obtain ⟨z,y,vs,r,ob,es,ep,e,c⟩:=x;exact ⟨z,y,vs,r,ob,es,ep,k _ _ (.inl rfl) e,c⟩
 | dT az =>
  obtain ⟨z,y,xs,r,ob,es,ep,e,c⟩:=x;exact ⟨z,y,xs,Paired.mapP r fun p q z=>⟨z.1,ht _ _ z.2.1,z.2.2⟩,ob,es,ep,k _ _ (.inl rfl) e,c⟩
 | set S n=>obtain ⟨ob,es,ep,t,e,c⟩:=x;exact ⟨ob,es,ep,t,k _ _ (.inl rfl) e,c⟩
 | ins C dx fs =>
  obtain ⟨d,z,ne,e,mA,⟨od,es,ep,e2,c⟩,r⟩:=x;exact ⟨ho _ d,z,ne,k _ _ (.inl rfl) e,mA,⟨od,es,ep,k _ _ (.inr d) e2,c⟩,r⟩
 | own y=>obtain ⟨ob,e⟩:=x;exact ⟨ob,k _ _ (.inl rfl) e⟩
 | xd fs=>obtain ⟨mA,⟨od,es,ep,e,c⟩,r⟩:=x;exact ⟨mA,⟨od,es,ep,k _ _ (.inl rfl) e,c⟩,r⟩
 | rng lo hi=>obtain ⟨t,u,v,e⟩:=x;exact ⟨t,u,v,k _ _ (.inl rfl) e⟩
 | frz ob u ih=>obtain ⟨e,q⟩:=x;exact ⟨k _ _ (.inl rfl) e,ih q⟩
 | tbl ps =>
  have e:h.get? a = some { cls:=.none,data:=.fields ps }:=x;show h'.get? a = some { cls:=.none,data:=.fields ps };exact k a _ (.inl rfl) e
 | met f y =>
  have e:h.get? a = some (W.methodObj (.ref f) (.ref y)):=x;show h'.get? a = some (W.methodObj (.ref f) (.ref y));exact k a _ (.inl rfl) e
 | ext φ=>obtain ⟨p,⟨o,e⟩,st⟩:=x;exact ⟨st _ _ p fun o q=>k _ _ (.inl rfl) q,⟨o,k _ _ (.inl rfl) e⟩,st⟩
theorem HOk.lt (x:HOk P w H h) (e:H a = some o):a < h.objs.size:=(x a o e).lt
theorem HOk.fresh (x:HOk P w H h) (e:h.objs.size <= a):H a = none:=by
 cases q:H a with
 | none=>rfl
 | some u=>exact absurd (Nat.lt_of_lt_of_le (x.lt q) e) (Nat.lt_irrefl _)
theorem HOk.kept (x:HOk P w H h) (k:∀ b u,h.get? b = some u->h'.get? b = some u):HOk P w H h':=fun a o e =>
 (x a o e).stay (fun b u _ q=>k b u q) (fun _ q=>q) fun _ _ q=>q
theorem HOk.laid (x:HOk P w H h) (k:∀ b u,h.get? b = some u->h'.get? b = some u) (hp:h.objs.size <= a) (new:ObjOk P w (upd H a o) h' a o):HOk P w (upd H a o) h':=fun b u e=>by
 have hn:=x.fresh hp
 by_cases hb:b = a
 ·subst hb;rw [aC] at e;cases e;exact new
 ·rw [ay hb] at e;exact (x b u e).stay (fun c v _ q=>k c v q) (fun c q=>by rw [ay (cS q hn)];exact q) fun c xs q=>by rw [ay (cS q hn)];exact q
end
def Rd (H:Hp) (a:Addr) (u:HO):Prop:=H a = some u \/ ∃ o,H a = some (.frz o u)
theorem Rd.ok {u:HO} (r:Rd H a u) (x:HOk P w H h):ObjOk P w H h a u:=by
 rcases r with r | ⟨o,r⟩
 ·exact x a u r
 ·obtain ⟨_,q⟩:=x a _ r;exact q
def ME:Option HO->Prop
 | some (.lst _)=>True
 | some (.dK _)=>True
 | some (.dT _)=>True
 | some (.set _ _)=>True
 | some (.ins _ _ _)=>True
 | some (.ext _)=>True
 | _=>False
section
variable {x e:Addr} {o':HO}
theorem HOk.write (ok : HOk P w H h) (mu : ME (H x)) (he : e = x \/ H e = some (.own x)) (k : ∀ b u, b ≠ e -> h.get? b = some u -> h'.get? b = some u) (Jt : ∃ u, h'.get? e = some u)
    (new:ObjOk P w (upd H x o') h' x o'):HOk P w (upd H x o') h':=fun b u q=>by
 have Kt:∀ c y,H c = some (.own y)->c ≠ x:=fun c y r z=>by subst z;rw [r] at mu;exact mu
 have Rq:∀ c xs,H c = some (.tup xs)->c ≠ x:=fun c xs r z=>by subst z;rw [r] at mu;exact mu
 by_cases hb:b = x
 ·subst hb;rw [aC] at q;cases q;exact new
 ·rw [ay hb] at q
  by_cases Eo:b = e
  ·have q':H b = some (.own x):=by
    rcases he with z | z
    ·exact absurd (Eo.trans z) hb
    ·rw [Eo];exact z
   rw [q] at q';cases q';obtain ⟨v,hv⟩:=Jt;exact ⟨v,by rw [Eo];exact hv⟩
  ·refine (ok b u q).stay (fun c v hc r=>k c v ?_ r) (fun c r=>by rw [ay (Kt c b r)];exact r) fun c xs r=>by rw [ay (Rq c xs r)];exact r
   rcases hc with rfl | hc
   ·exact Eo
   ·rintro rfl
    rcases he with z | z
    ·exact Kt c b hc z
    ·rw [hc] at z;cases z;exact hb rfl
end
structure Un (fs ex:List Addr) (H H':Hp) (h h':Heap):Prop where
 keep:∀ b o,h.get? b = some o->H b = none->b ∉ fs->b ∉ ex->h'.get? b = some o
 slot:∀ b o,h.get? b = some o->H b = none->b ∈ fs->b ∉ ex->∃ sl,h'.get? b = some { o with slots:=sl }
 free:∀ b o,h.get? b = some o->H b = none->b ∉ ex->H' b = none
 there:∀ b o,h.get? b = some o->b ∉ ex->∃ o',h'.get? b = some o'
 tups:∀ b xs,H b = some (.tup xs)->H' b = some (.tup xs)
 frzs:∀ b o u,H b = some (.frz o u)->H' b = some (.frz o u)
 tbls:∀ b ps,H b = some (.tbl ps)->∃ more,H' b = some (.tbl (ps ++ more))
section
variable {fs TQ ex Yp:List Addr} {H1 H2:Hp} {h1 h2:Heap} {x e:Addr}
theorem Un.any (u:Un fs ex H H1 h h1) {ob:Obj} (q:h.get? b = some ob) (n:H b = none) (hx:b ∉ ex):∃ sl,h1.get? b = some { ob with slots:=sl }:=by
 by_cases hb:b ∈ fs
 ·exact u.slot b ob q n hb hx
 ·exact ⟨ob.slots,u.keep b ob q n hb hx⟩
theorem Un.trans (a:Un fs ex H H1 h h1) (b:Un fs ex H1 H2 h1 h2):Un fs ex H H2 h h2 where
 keep:=fun c ob q n hc hx=>b.keep c ob (a.keep c ob q n hc hx) (a.free c ob q n hx) hc hx
 slot:=fun c ob q n hc hx=>by
  obtain ⟨sl,e1⟩:=a.slot c ob q n hc hx;obtain ⟨OG,e2⟩:=b.slot c _ e1 (a.free c ob q n hx) hc hx;exact ⟨OG,e2⟩
 free:=fun c ob q n hx=>by
  obtain ⟨o',e1⟩:=a.there c ob q hx;exact b.free c o' e1 (a.free c ob q n hx) hx
 there:=fun c ob q hx=>by
  obtain ⟨o',e1⟩:=a.there c ob q hx;exact b.there c o' e1 hx
 tups:=fun c xs q=>b.tups c xs (a.tups c xs q)
 frzs:=fun c ob xs q=>b.frzs c ob xs (a.frzs c ob xs q)
 tbls:=fun c ps q=>by
  obtain ⟨m1,e1⟩:=a.tbls c ps q;obtain ⟨m2,e2⟩:=b.tbls c _ e1;exact ⟨m1 ++ m2,by rw [e2,Array.append_assoc]⟩
theorem Un.kept (k:∀ b u,h.get? b = some u->h'.get? b = some u):Un fs ex H H h h' :=
 ⟨fun b ob q _ _ _=>k b ob q,fun b ob q _ _ _=>⟨ob.slots,k b ob q⟩,fun _ _ _ n _=>n,fun b ob q _=>⟨ob,k b ob q⟩,fun _ _ q=>q,fun _ _ _ q=>q,fun _ ps q=>⟨#[],by rw [q];simp⟩⟩
theorem Un.refl:Un fs ex H H h h:=Un.kept fun _ _ q=>q
theorem Un.laid (k:∀ b u,h.get? b = some u->h'.get? b = some u) (hp:h.objs.size <= a) (hn:H a = none):Un fs ex H (upd H a o) h h' where
 keep:=fun b u q _ _ _=>k b u q
 slot:=fun b u q _ _ _=>⟨u.slots,k b u q⟩
 free:=fun b u q n _=>by rw [ay (Nat.ne_of_lt (Nat.lt_of_lt_of_le (Heap.lt_size q) hp))];exact n
 there:=fun b u q _=>⟨u,k b u q⟩
 tups:=fun b xs q=>by rw [ay (cS q hn)];exact q
 frzs:=fun b u xs q=>by rw [ay (cS q hn)];exact q
 tbls:=fun b ps q=>⟨#[],by rw [ay (cS q hn),q];simp⟩
theorem Un.write (mu:ME (H x)) (he:e = x \/ H e = some (.own x)) (k:∀ b u,b ≠ e->h.get? b = some u->h'.get? b = some u) (Jt:∃ u,h'.get? e = some u):Un fs ex H (upd H x o) h h':=by
 have hx:∀ b,H b = none->b ≠ x:=fun b n z=>by subst z;rw [n] at mu;exact mu
 have hb:∀ b,H b = none->b ≠ e:=fun b n z=>by
  subst z
  rcases he with r | r
  ·exact hx b n r
  ·rw [n] at r;cases r
 have hm:∀ b u,H b = some u->¬ ME (some u)->b ≠ x:=fun b u q nm z=>by subst z;rw [q] at mu;exact nm mu
 refine ⟨fun b u q n _ _=>k b u (hb b n) q,fun b u q n _ _=>⟨u.slots,k b u (hb b n) q⟩,fun b u q n _=>by rw [ay (hx b n)];exact n,fun b u q _=>?_,
  fun b xs q=>by rw [ay (hm b _ q fun z=>z)];exact q,fun b u xs q=>by rw [ay (hm b _ q fun z=>z)];exact q,fun b ps q=>⟨#[],by rw [ay (hm b _ q fun z=>z),q];simp⟩⟩
 by_cases Eo:b = e
 ·subst Eo;exact Jt
 ·exact ⟨u,k b u Eo q⟩
theorem Un.mono (u:Un fs ex H H1 h h1) (hs:∀ b ∈ fs,b ∈ TQ) (hx:∀ b ∈ ex,b ∈ Yp):Un TQ Yp H H1 h h1 :=
 ⟨fun b ob q n hb he=>u.keep b ob q n (fun z=>hb (hs b z)) fun z=>he (hx b z),fun _ _ q n _ he=>u.any q n fun z=>he (hx _ z),fun b ob q n he=>u.free b ob q n fun z=>he (hx b z),fun b ob q he=>u.there b ob q fun z=>he (hx b z),u.tups,u.frzs,u.tbls⟩
end
def ML (h:Heap) (H:Hp):List Addr:=(List.range h.objs.size).filter fun a=>(H a).isSome
def p8 (h:Heap) (H:Hp):Heap:=W.hideAll h (ML h H)
theorem ze (h:Heap) (H:Hp):(p8 h H).objs.size = h.objs.size:=W.hideAll_size _ _
theorem BX {o:Obj} (e:h.get? b = some o) (n:H b = none):(p8 h H).get? b = some o :=
 W.hideAll_get _ e fun hm=>by
  have q:(H b).isSome = true:=(List.mem_filter.mp hm).2;rw [n] at q;simp at q
theorem D1 {o:Obj} (e:(p8 h H).get? b = some o):h.get? b = some o/\H b = none:=by
 have e':h.get? b = some o:=W.of_hideAll (ML h H) e;refine ⟨e',?_⟩
 cases q:H b with
 | none=>rfl
 | some x =>
  have hm:b ∈ ML h H:=List.mem_filter.mpr ⟨List.mem_range.mpr (Heap.lt_size e'),by simp [q]⟩;have z:(p8 h H).get? b = none:=W.hideAll_none (ML h H) hm;rw [z] at e;cases e
def EK (g h:Heap) (L:Addr):List (Addr × Obj):=(List.range h.objs.size).filterMap fun a=>if a = L \/ (g.get? a).isSome = true then none else (h.get? a).map fun o=>(a,o)
def rest (g h:Heap) (L d:Addr):List (Addr × Obj):=(EK g h L).filter fun p=>decide (p.1 ≠ d)
structure Mod (K:W.Frag) (mg:Str->Option Value) (base:Heap):Prop where
 kin:K.In base
 glob:base.Ns mainGlobals mg
 blt:∃ mb,base.Ns builtinsNs mb/\∀ x:Str,x ≠ "__name__"->mb x = bootBuiltins x
 nolimit:base.NoLimit
structure Cx where
 prog:Program
 w:World
 K:W.Frag
 mg:Str->Option Value
 base:Heap
 A:Around
 N:List Str
 s₀:Shared
 H₀:Hp
 env:Env
 outer:List Env
 stack:List Env
 ex:List Addr
 fn:Str->Bool
 calm:Bool
 pn:List (Addr × Obj)
 xe:Value->Shared->Prop
variable {X:Cx}
def ti (l:List Env):List Addr:=l.filterMap (·.frame)
abbrev Cx.fs (X:Cx):List Addr:=ti X.outer
def Nq (sc:Scope) (x:Str):Prop:=sc.names.lookup x = some .local \/ sc.names.lookup x = some .cell \/ sc.names.lookup x = some .free
def Loc (sc:Scope) (x:Str):Prop:=sc.names.lookup x = some .local \/ sc.names.lookup x = some .cell
def Look (env:Env) (h:Heap) (m:Str->Option Value) (x:Str) (u:Value):Prop :=
 (env.kindOf x = some .local/\m x = some u) \/ ((env.kindOf x = some .cell \/ env.kindOf x = some .free)/\∃ c,env.cells.lookup x = some c/\h.IsCell c (some u))
structure Cx.Ok (X:Cx):Prop where
 mod:Mod X.K X.mg X.base
 kind:X.env.scope.kind = .function
 glob:X.env.globals = mainGlobals
 blt:X.env.builtins = builtinsNs
 above:X.s₀.heap.objs.size <= X.env.locals
 inj:∀ x y c,X.env.cells.lookup x = some c->X.env.cells.lookup y = some c->x = y
 has:∀ x,(X.env.kindOf x = some .cell \/ X.env.kindOf x = some .free)->∃ c,X.env.cells.lookup x = some c
 cab:∀ x c,X.fn x = true->X.env.cells.lookup x = some c->X.s₀.heap.objs.size <= c
 hd:X.calm = true->X.A.handled = none
 frames:X.A.frames = some X.stack
 stk:X.stack = X.outer \/ (X.stack = X.env :: X.outer/\X.env.frame = some X.env.locals)
 exf:∀ b ∈ X.ex,b ≠ X.env.locals/\∀ x c,X.env.cells.lookup x = some c->c ≠ b
 bs:∀ b o,X.base.get? b = some o->X.s₀.heap.get? b = some o/\X.H₀ b = none
 bsz:X.base.objs.size <= X.s₀.heap.objs.size
 noex:∀ b o,X.base.get? b = some o->b ∉ X.ex
 exfs:∀ b ∈ X.ex,b ∉ X.fs
 funs:X.s₀.heap.FunFrames X.base X.outer
 frf:∀ b ∈ X.fs,X.H₀ b = none
structure Inv (X:Cx) (pins:List (Addr × Obj)) (σ:List (Option V)) (H:Hp) (s:Shared):Prop where
 ok:X.Ok
 os:s.os = X.s₀.os
 bare:AllBare s.gens
 base:Un X.fs X.ex X.H₀ H X.s₀.heap s.heap
 loc:∃ m,s.heap.Ns X.env.locals m/\∀ (i:Nat) (x:Str) (v:V),X.N[i]? = some x->σ[i]? = some (some v)->Nq X.env.scope x->∃ u,RelV v u/\Look X.env s.heap m x u
 cell:∀ x c,X.env.cells.lookup x = some c->∃ v,s.heap.IsCell c v
 free:H X.env.locals = none
 freeC:∀ x c,X.env.cells.lookup x = some c->H c = none
 pin:∀ p ∈ X.pn ++ pins,s.heap.get? p.1 = some p.2/\H p.1 = none/\p.1 ≠ X.env.locals/\p.1 ∉ X.fs/\∀ v,p.2.data ≠ .cell v
 hok:HOk X.prog X.w H s.heap
 len:σ.length = X.N.length
section
variable {σ:List (Option V)}
theorem Cx.Ok.nofr (ok:X.Ok) {o:Obj} (e:X.base.get? b = some o):b ∉ X.fs:=fun hb=>by
 have:=(ok.funs.mem hb).1;rw [e] at this;cases this
theorem Inv.bs (I:Inv X pins σ H s):∀ b o,X.base.get? b = some o->s.heap.get? b = some o/\H b = none:=fun b o e =>
 ⟨I.base.keep b o (I.ok.bs b o e).1 (I.ok.bs b o e).2 (I.ok.nofr e) (I.ok.noex b o e),I.base.free b o (I.ok.bs b o e).1 (I.ok.bs b o e).2 (I.ok.noex b o e)⟩
theorem Inv.bk (I:Inv X pins σ H s):∀ b o,X.base.get? b = some o->s.heap.get? b = some o:=fun b o e=>(I.bs b o e).1
theorem Inv.mod (I:Inv X pins σ H s):Mod X.K X.mg X.base:=I.ok.mod
theorem Inv.kIn (I:Inv X pins σ H s):X.K.In s.heap:=I.ok.mod.kin.keeps I.bk
theorem Inv.nolimit (I:Inv X pins σ H s):s.heap.NoLimit:=I.ok.mod.nolimit.keeps I.bk
theorem Inv.lt (I:Inv X pins σ H s):X.env.locals < s.heap.objs.size:=let ⟨_,hn,_⟩:=I.loc;hn.lt
theorem Inv.sz (I:Inv X pins σ H s):X.s₀.heap.objs.size <= s.heap.objs.size:=Nat.le_trans I.ok.above (Nat.le_of_lt I.lt)
theorem Inv.nofs (I:Inv X pins σ H s) (h:s.heap.objs.size <= a):a ∉ X.fs:=fun hb=>by
 obtain ⟨_,o,ho,_⟩:=I.ok.funs.mem hb;exact absurd (Nat.lt_of_lt_of_le (Heap.lt_size ho) (Nat.le_trans I.sz h)) (Nat.lt_irrefl _)
theorem Inv.cne (I:Inv X pins σ H s):∀ x c,X.env.cells.lookup x = some c->c ≠ X.env.locals:=fun x c e z=>by
 obtain ⟨v,o,ho,hd⟩:=I.cell x c e;obtain ⟨m,⟨o',es,ep,uQ,BZ,_⟩,_⟩:=I.loc;rw [z,uQ] at ho;cases ho;rw [BZ] at hd;cases hd
theorem Inv.funs (I:Inv X pins σ H s):s.heap.FunFrames X.base X.outer:=by
 have all:∀ (l:List Env),(∀ b ∈ ti l,b ∈ X.fs)->X.s₀.heap.FunFrames X.base l->s.heap.FunFrames X.base l:=by
  intro l
  induction l with
  | nil=>intro _ _;trivial
  | cons env r ih =>
   intro hs hl;obtain ⟨hk,⟨L,o,hf,hn,ho,hd⟩,hr⟩:=hl;have hL:L ∈ X.fs:=hs L (by unfold ti;rw [List.filterMap_cons,hf];exact List.mem_cons_self);obtain ⟨sl,e⟩:=I.base.slot L o ho (I.ok.frf L hL) hL fun z=>I.ok.exfs L z hL
   exact ⟨hk,⟨L,_,hf,hn,e,hd⟩,ih (fun b hb=>hs b (by unfold ti;rw [List.filterMap_cons,hf];exact List.mem_cons_of_mem _ hb)) hr⟩
 exact all X.outer (fun _ hb=>hb) I.ok.funs
theorem Inv.stack (I:Inv X pins σ H s):s.heap.FunFrames X.base X.stack:=by
 rcases I.ok.stk with e | ⟨e,hf⟩
 ·rw [e];exact I.funs
 ·rw [e];obtain ⟨m,hn,_⟩:=I.loc;refine .cons (by rw [I.ok.kind];decide) hf hn ?_ I.funs;exact Heap.get?_none_of_le (Nat.le_trans I.ok.bsz I.ok.above)
theorem Inv.stkSub (I:Inv X pins σ H s):∀ b ∈ ti X.stack,b ∈ X.env.locals :: X.fs:=fun b hb=>by
 rcases I.ok.stk with e | ⟨e,hf⟩
 ·rw [e] at hb;exact List.mem_cons_of_mem _ hb
 ·rw [e] at hb;unfold ti at hb;rw [List.filterMap_cons,hf] at hb;exact hb
theorem Inv.stkFree (I:Inv X pins σ H s):∀ b ∈ ti X.stack,H b = none:=fun b hb=>by
 rcases List.mem_cons.mp (I.stkSub b hb) with e | hb
 ·rw [e];exact I.free
 ·obtain ⟨_,o,ho,_⟩:=I.ok.funs.mem hb;exact I.base.free b o ho (I.ok.frf b hb) fun z=>I.ok.exfs b z hb
theorem Inv.step {g' : Array GenState} {t' : Nat} {d' : Drawn} (I : Inv X pins σ H s)
    (me:∀ b ∈ ch,(b ∈ X.ex \/ X.s₀.heap.objs.size <= b)/\b ≠ X.env.locals/\(∀ x c,X.env.cells.lookup x = some c->c ≠ b)/\∀ p ∈ X.pn ++ pins,p.1 ≠ b)
    (keep:∀ b o,b ≠ X.env.locals->b ∉ X.fs->b ∉ ch->s.heap.get? b = some o->H b = none->h'.get? b = some o)
    (slot:∀ b o,b ≠ X.env.locals->b ∈ X.fs->b ∉ ch->s.heap.get? b = some o->H b = none->∃ sl,h'.get? b = some { o with slots:=sl }) (free:∀ b o,b ∉ ch->s.heap.get? b = some o->H b = none->H' b = none)
    (there:∀ b o,b ∉ ch->s.heap.get? b = some o->∃ o',h'.get? b = some o')
    (tups:∀ b xs,H b = some (.tup xs)->H' b = some (.tup xs)) (frzs:∀ b o u,H b = some (.frz o u)->H' b = some (.frz o u)) (tbls:∀ b ps,H b = some (.tbl ps)->∃ more,H' b = some (.tbl (ps ++ more)))
    (ns:∀ m,s.heap.Ns X.env.locals m->h'.Ns X.env.locals m) (hok:HOk X.prog X.w H' h') (hg:AllBare g') :
    Inv X pins σ H' { s with heap:=h',gens:=g',drawn:=d',toks:=t' }:=by
 have Xz:∀ b o,X.s₀.heap.get? b = some o->b ≠ X.env.locals:=fun b o e=>Nat.ne_of_lt (Nat.lt_of_lt_of_le (Heap.lt_size e) I.ok.above)
 have MY:∀ b o,X.s₀.heap.get? b = some o->b ∉ X.ex->b ∉ ch:=fun b o e hx hb=>by
  rcases (me b hb).1 with z | z
  ·exact hx z
  ·exact absurd (Nat.lt_of_lt_of_le (Heap.lt_size e) z) (Nat.lt_irrefl _)
 have cellK:∀ x c,X.env.cells.lookup x = some c->∀ v,s.heap.IsCell c v->h'.IsCell c v:=fun x c e v ⟨o,ho,hd⟩=>by
  have Ky:c ∉ ch:=fun z=>(me c z).2.2.1 x c e rfl
  by_cases hc:c ∈ X.fs
  ·obtain ⟨sl,q⟩:=slot c o (I.cne x c e) hc Ky ho (I.freeC x c e);exact ⟨_,q,hd⟩
  ·exact ⟨o,keep c o (I.cne x c e) hc Ky ho (I.freeC x c e),hd⟩
 refine ⟨I.ok,I.os,hg,⟨fun b o e n hb hx=>?_,fun b o e n hb hx=>?_,fun b o e n hx=>?_,fun b o e hx=>?_,fun b xs e=>tups b xs (I.base.tups b xs e),fun b o xs e=>frzs b o xs (I.base.frzs b o xs e),fun b ps e=>?_⟩,?_,fun x c e=>?_,?_,fun x c e=>?_,fun p hp=>?_,hok,I.len⟩
 ·exact keep b o (Xz b o e) hb (MY b o e hx) (I.base.keep b o e n hb hx) (I.base.free b o e n hx)
 ·obtain ⟨sl,e1⟩:=I.base.slot b o e n hb hx;obtain ⟨OG,e2⟩:=slot b _ (Xz b o e) hb (MY b o e hx) e1 (I.base.free b o e n hx);exact ⟨OG,e2⟩
 ·obtain ⟨o',e1⟩:=I.base.there b o e hx;exact free b o' (MY b o e hx) e1 (I.base.free b o e n hx)
 ·obtain ⟨o',e1⟩:=I.base.there b o e hx;exact there b o' (MY b o e hx) e1
 ·obtain ⟨m1,e1⟩:=I.base.tbls b ps e;obtain ⟨m2,e2⟩:=tbls b _ e1;exact ⟨m1 ++ m2,by rw [e2,Array.append_assoc]⟩
 ·obtain ⟨m,hn,hl⟩:=I.loc;refine ⟨m,ns m hn,fun i x v e1 e2 e3=>?_⟩
  obtain ⟨u,r,l⟩:=hl i x v e1 e2 e3;refine ⟨u,r,?_⟩
  rcases l with l | ⟨k,c,e,z⟩
  ·exact .inl l
  ·exact .inr ⟨k,c,e,cellK x c e _ z⟩
 ·obtain ⟨v,z⟩:=I.cell x c e;exact ⟨v,cellK x c e v z⟩
 ·obtain ⟨m,⟨o,_,_,ho,_⟩,_⟩:=I.loc;exact free _ o (fun z=>(me _ z).2.1 rfl) ho I.free
 ·obtain ⟨v,o,ho,hd⟩:=I.cell x c e;exact free c o (fun z=>(me c z).2.2.1 x c e rfl) ho (I.freeC x c e)
 ·obtain ⟨e,n,ne,nf,d⟩:=I.pin p hp;have Ky:p.1 ∉ ch:=fun z=>(me p.1 z).2.2.2 p hp rfl
  exact ⟨keep p.1 p.2 ne nf Ky e n,free p.1 p.2 Ky e n,ne,nf,d⟩
theorem Inv.un (I:Inv X pins σ H s) (u:Un X.fs [] H H' s.heap h') (hok:HOk X.prog X.w H' h'):Inv X pins σ H' { s with heap:=h',toks:=t' }:=by
 obtain ⟨m,⟨o,es,ep,ho,r⟩,_⟩:=id I.loc;obtain ⟨sl,hL⟩:=u.any ho I.free (by simp);exact I.step (g':=s.gens) (d':=s.drawn) (ch:=[]) (fun _ z=>nomatch z) (fun b o _ hb _ e n=>u.keep b o e n hb (by simp)) (fun b o _ hb _ e n=>u.slot b o e n hb (by simp)) (fun b o _ e n=>u.free b o e n (by simp)) (fun b o _ e=>u.there b o e (by simp)) u.tups u.frzs u.tbls (fun m' hm=>by
  obtain ⟨o',jf,Lz,uQ,r'⟩:=hm;rw [ho] at uQ;cases uQ;exact ⟨_,jf,Lz,hL,r'⟩) hok I.bare
theorem Inv.call {g' : Array GenState} {d' : Drawn} (I : Inv X pins σ H s) (u : Un (ti X.stack) ch H H' s.heap h') (hok : HOk X.prog X.w H' h') (hg : AllBare g')
    (me:∀ b ∈ ch,(b ∈ X.ex \/ X.s₀.heap.objs.size <= b)/\b ≠ X.env.locals/\(∀ x c,X.env.cells.lookup x = some c->c ≠ b)/\∀ p ∈ X.pn ++ pins,p.1 ≠ b) :
    Inv X pins σ H' { s with heap:=h',gens:=g',drawn:=d',toks:=t' }:=by
 obtain ⟨m,⟨o,es,ep,ho,r⟩,_⟩:=id I.loc;obtain ⟨sl,hL⟩:=u.any ho I.free fun z=>(me _ z).2.1 rfl
 exact I.step (ch:=ch) me (fun b o hL hb hc e n=>u.keep b o e n (fun z=>(List.mem_cons.mp (I.stkSub b z)).elim hL hb) hc) (fun b o _ _ hc e n=>u.any e n hc) (fun b o hc e n=>u.free b o e n hc) (fun b o hc e=>u.there b o e hc) u.tups u.frzs u.tbls (fun m' hm=>by
  obtain ⟨o',jf,Lz,uQ,r'⟩:=hm;rw [ho] at uQ;cases uQ;exact ⟨_,jf,Lz,hL,r'⟩) hok hg
theorem Inv.turned {it : Addr} (I : Inv X pins σ H s) (k : ∀ b o, b ≠ it -> s.heap.get? b = some o -> h'.get? b = some o) (hn : H it = none) (hL : it ≠ X.env.locals)
    (h1:it ∈ X.ex \/ X.s₀.heap.objs.size <= it) (h2:∀ x c,X.env.cells.lookup x = some c->c ≠ it) (h3:∀ p ∈ X.pn ++ pins,p.1 ≠ it):Inv X pins σ H { s with heap:=h',toks:=t' }:=by
 have Xw:∀ b u,H b = some u->b ≠ it:=fun b u e z=>by rw [z,hn] at e;cases e
 refine I.step (g':=s.gens) (d':=s.drawn) (ch:=[it]) (fun b hb=>?_) (fun b o _ _ hc e _=>k b o (fun z=>hc (by simp [z])) e) (fun b o _ _ hc e _=>⟨o.slots,k b o (fun z=>hc (by simp [z])) e⟩) (fun _ _ _ _ n=>n)
  (fun b o hc e=>⟨o,k b o (fun z=>hc (by simp [z])) e⟩) (fun _ _ e=>e) (fun _ _ _ e=>e) (fun b ps e=>⟨#[],by rw [e];simp⟩) (fun m hm=>?_) (fun b u e=>?_) I.bare
 ·have e:b = it:=by simpa using hb
  subst e;exact ⟨h1,hL,h2,h3⟩
 ·obtain ⟨o,es,ep,ho,r⟩:=hm;exact ⟨o,es,ep,k _ o (Ne.symm hL) ho,r⟩
 ·refine (I.hok b u e).stay (fun c v hc q=>k c v ?_ q) (fun _ q=>q) fun _ _ q=>q
  rcases hc with z | z
  ·rw [z];exact Xw b u e
  ·exact Xw c _ z
theorem Inv.tok (I:Inv X pins σ H s) (t:Nat):Inv X pins σ H { s with toks:=t }:=I.un (h':=s.heap) (t':=t) Un.refl I.hok
theorem Inv.kept (I:Inv X pins σ H s) (k:∀ b u,s.heap.get? b = some u->h'.get? b = some u):Inv X pins σ H { s with heap:=h',toks:=t' }:=I.un (Un.kept k) (I.hok.kept k)
theorem Inv.laid (I : Inv X pins σ H s) (k : ∀ b u, s.heap.get? b = some u -> h'.get? b = some u) (hp : s.heap.objs.size <= a) (new : ObjOk X.prog X.w (upd H a o) h' a o) :
    Inv X pins σ (upd H a o) { s with heap:=h',toks:=t' }:=I.un (Un.laid k hp (I.hok.fresh hp)) (I.hok.laid k hp new)
theorem Inv.write {x e : Addr} (I : Inv X pins σ H s) (mu : ME (H x)) (he : e = x \/ H e = some (.own x)) (k : ∀ b u, b ≠ e -> s.heap.get? b = some u -> h'.get? b = some u) (Jt : ∃ u, h'.get? e = some u)
    (new:ObjOk X.prog X.w (upd H x o) h' x o):Inv X pins σ (upd H x o) { s with heap:=h',toks:=t' }:=I.un (Un.write mu he k Jt) (I.hok.write mu he k Jt new)
theorem Inv.pins_of {Fl:List (Addr × Obj)} (I:Inv X pins σ H s) (h:∀ p ∈ Fl,s.heap.get? p.1 = some p.2/\H p.1 = none/\p.1 ≠ X.env.locals/\p.1 ∉ X.fs/\∀ v,p.2.data ≠ .cell v):Inv X Fl σ H s :=
 ⟨I.ok,I.os,I.bare,I.base,I.loc,I.cell,I.free,I.freeC,fun p hp=>(List.mem_append.mp hp).elim (fun z=>I.pin p (List.mem_append_left _ z)) (h p),I.hok,I.len⟩
theorem uz {N:List Str} (hN:N.Nodup) (a:N[i]? = some x) (b:N[j]? = some x):i = j:=by
 obtain ⟨h1,e1⟩:=List.getElem?_eq_some_iff.mp a;obtain ⟨h2,e2⟩:=List.getElem?_eq_some_iff.mp b;exact (List.getElem_inj hN).mp (e1.trans e2.symm)
theorem yp {E : Value -> Shared -> Prop} {Q : Unit -> Shared -> Prop} (I : Inv X pins σ H s) (hN : X.N.Nodup) (hi : X.N[i]? = some x) (hx : Loc X.env.scope x) (r : RelV v u)
    (h:∀ s',Inv X pins (σ.set i (some v)) H s'->(∃ a,Heap.SameBut a s.heap s'.heap/\(a = X.env.locals \/ X.env.cells.lookup x = some a))->Q () s') (hf:X.fn x = true \/ X.env.scope.names.lookup x = some .local:=by first | exact .inl rfl | exact .inr rfl | assumption):wpAny M A (storeName X.env x u) Q E s:=by
 obtain ⟨m,hn,hl⟩:=id I.loc;have Tp:(X.env.scope.kind == .class || (X.env.scope.kind == .module && X.env.locals != X.env.globals)) = false:=by rw [I.ok.kind];rfl
 have K9:i < σ.length:=by rw [I.len];exact (List.getElem?_eq_some_iff.mp hi).1
 have cne:=I.cne;have tracked:∀ {a:Addr} {h':Heap},(∃ o,s.heap.get? a = some o/\H a = none)->Heap.SameBut a s.heap h'->HOk X.prog X.w H h':=fun {a h'} ha hs b ob e=>by
  obtain ⟨_,_,uV⟩:=ha;refine (I.hok b ob e).stay (fun c w' hc q=>(hs.2 c ?_).trans q) (fun _ q=>q) fun _ _ q=>q
  rintro rfl
  rcases hc with rfl | hc
  ·rw [uV] at e;cases e
  ·rw [uV] at hc;cases hc
 rcases hx with hk | hk
 ·refine wpAny_storeName_local hk hn (fun h' oH hs=>?_) Tp;obtain ⟨oL,_,_,hoL,_⟩:=id hn;refine h _ ⟨I.ok,I.os,I.bare,⟨fun b o e n hb hx=>?_,fun b o e n hb hx=>?_,I.base.free,fun b o e hx=>?_,I.base.tups,I.base.frzs,I.base.tbls⟩,⟨_,oH,fun j y v' e1 e2 e3=>?_⟩,fun y c e=>?_,I.free,I.freeC,fun p hp=>?_,tracked ⟨oL,hoL,I.free⟩ hs,by simpa using I.len⟩ ⟨_,hs,.inl rfl⟩
  ·exact (hs.2 b (Nat.ne_of_lt (Nat.lt_of_lt_of_le (Heap.lt_size e) I.ok.above))).trans (I.base.keep b o e n hb hx)
  ·obtain ⟨sl,e1⟩:=I.base.slot b o e n hb hx;exact ⟨sl,(hs.2 b (Nat.ne_of_lt (Nat.lt_of_lt_of_le (Heap.lt_size e) I.ok.above))).trans e1⟩
  ·obtain ⟨o',e1⟩:=I.base.there b o e hx;exact ⟨o',(hs.2 b (Nat.ne_of_lt (Nat.lt_of_lt_of_le (Heap.lt_size e) I.ok.above))).trans e1⟩
  ·by_cases hj:j = i
   ·subst hj;rw [hi] at e1;cases e1;rw [List.getElem?_set_self K9] at e2
    cases e2
    exact ⟨u,r,.inl ⟨hk,by simp⟩⟩
   ·rw [List.getElem?_set_ne (Ne.symm hj)] at e2;obtain ⟨u',r',q⟩:=hl j y v' e1 e2 e3;refine ⟨u',r',?_⟩
    rcases q with ⟨k,e⟩ | ⟨k,c,e,z⟩
    ·refine .inl ⟨k,?_⟩;have:y ≠ x:=fun e=>hj (uz hN e1 (e ▸ hi))
     simp [this,e]
    ·exact .inr ⟨k,c,e,z.sameBut hs (cne y c e)⟩
  ·obtain ⟨w',z⟩:=I.cell y c e;exact ⟨w',z.sameBut hs (cne y c e)⟩
  ·obtain ⟨e,n,ne,nf,d⟩:=I.pin p hp;exact ⟨(hs.2 p.1 ne).trans e,n,ne,nf,d⟩
 ·have Lc:X.fn x = true:=by
   rcases hf with z | z
   ·exact z
   ·rw [z] at hk;cases hk
  obtain ⟨c,hc⟩:=I.ok.has x (.inl hk);obtain ⟨w',z⟩:=I.cell x c hc;refine wpAny_storeName_cell I.ok.kind hk hc z (fun h' zi hs=>?_)
  obtain ⟨oc,FD,SY⟩:=id z;refine h { s with heap:=h' } ⟨I.ok,I.os,I.bare,⟨fun b o e n hb hx=>?_,fun b o e n hb hx=>?_,I.base.free,fun b o e hx=>?_,I.base.tups,I.base.frzs,I.base.tbls⟩,⟨m,hn.sameBut hs (Ne.symm (cne x c hc)),fun j y v' e1 e2 e3=>?_⟩,fun y c' e=>?_,I.free,I.freeC,fun p hp=>?_,tracked ⟨oc,FD,I.freeC x c hc⟩ hs,by simpa using I.len⟩ ⟨c,hs,.inr hc⟩
  ·exact (hs.2 b (Nat.ne_of_lt (Nat.lt_of_lt_of_le (Heap.lt_size e) (I.ok.cab x c Lc hc)))).trans (I.base.keep b o e n hb hx)
  ·obtain ⟨sl,e1⟩:=I.base.slot b o e n hb hx;exact ⟨sl,(hs.2 b (Nat.ne_of_lt (Nat.lt_of_lt_of_le (Heap.lt_size e) (I.ok.cab x c Lc hc)))).trans e1⟩
  ·obtain ⟨o',e1⟩:=I.base.there b o e hx;exact ⟨o',(hs.2 b (Nat.ne_of_lt (Nat.lt_of_lt_of_le (Heap.lt_size e) (I.ok.cab x c Lc hc)))).trans e1⟩
  ·by_cases hj:j = i
   ·subst hj;rw [hi] at e1;cases e1;rw [List.getElem?_set_self K9] at e2
    cases e2
    exact ⟨u,r,.inr ⟨.inl hk,c,hc,zi⟩⟩
   ·rw [List.getElem?_set_ne (Ne.symm hj)] at e2;obtain ⟨u',r',q⟩:=hl j y v' e1 e2 e3;refine ⟨u',r',?_⟩
    rcases q with q | ⟨k,c',e,z'⟩
    ·exact .inl q
    ·refine .inr ⟨k,c',e,z'.sameBut hs ?_⟩;rintro rfl;exact hj (uz hN e1 (I.ok.inj _ _ _ e hc ▸ hi))
  ·by_cases qO:c' = c
   ·subst qO;exact ⟨_,zi⟩
   ·obtain ⟨w2,z2⟩:=I.cell y c' e;exact ⟨w2,z2.sameBut hs qO⟩
  ·obtain ⟨e,n,ne,nf,d⟩:=I.pin p hp;refine ⟨(hs.2 p.1 ?_).trans e,n,ne,nf,d⟩;intro q;rw [q,FD] at e;have q':oc = p.2:=Option.some.inj e;exact d w' (by rw [<- q'];exact SY)
theorem j0 {E : Value -> Shared -> Prop} {Q : Unit -> Shared -> Prop} (I : Inv X pins σ H s) (hN : X.N.Nodup) (hi : X.N[i]? = some x) (hx : Loc X.env.scope x) (r : RelV v u)
    (h:∀ s',Inv X pins (σ.set i (some v)) H s'->Q () s') (hf:X.fn x = true \/ X.env.scope.names.lookup x = some .local:=by first | exact .inl rfl | exact .inr rfl | assumption):wpAny M A (storeName X.env x u) Q E s :=
 yp I hN hi hx r (fun s' I' _=>h s' I') hf
theorem Inv.call' (I : Inv X pins σ H s) (ho : s'.os = s.os) (u : Un (ti X.stack) ch H H' s.heap s'.heap) (hok : HOk X.prog X.w H' s'.heap) (hg : AllBare s'.gens)
    (me:∀ b ∈ ch,(b ∈ X.ex \/ X.s₀.heap.objs.size <= b)/\b ≠ X.env.locals/\(∀ x c,X.env.cells.lookup x = some c->c ≠ b)/\∀ p ∈ X.pn ++ pins,p.1 ≠ b):Inv X pins σ H' s':=by
 obtain ⟨h',g',d',t',o'⟩:=s';have e:o' = s.os:=ho;subst e;exact I.call (g':=g') (t':=t') (d':=d') u hok hg me
end
abbrev XK:=Value->Option Addr->Hp->Prop
variable {E:XK}
abbrev St:=List (Option V)
variable {σ:St}
abbrev VK:=V->Hp->Prop
variable {Q:VK}
abbrev TE:=St->Hp->VK->Prop
variable {ta te:TE}
abbrev TT:=St->Hp->(Bool->Hp->Prop)->Prop
abbrev TA:=St->Hp->(List V->Hp->Prop)->Prop
variable {t:TA}
structure Ends where
 nx:St->Hp->Prop
 rt:VK
 bk:St->Hp->Prop:=fun _ _=>False
 ct:St->Hp->Prop:=fun _ _=>False
variable {D:Ends}
abbrev TS:=Ends->St->Hp->Prop
variable {tb:TS}
def EP (X:Cx) (pins:List (Addr × Obj)) (σ:St) (Q:VK) (u:Value) (s':Shared):Prop:=∃ v H',Inv X pins σ H' s'/\RelV v u/\Q v H'
def TP (X:Cx) (pins:List (Addr × Obj)) (σ:St) (Q:Bool->Hp->Prop) (b:Bool) (s':Shared):Prop:=∃ H',Inv X pins σ H' s'/\Q b H'
def AP (X:Cx) (pins:List (Addr × Obj)) (σ:St) (Q:List V->Hp->Prop) (us:List Value) (s':Shared):Prop:=∃ vs H',Inv X pins σ H' s'/\Vals vs us/\Q vs H'
def SP (X:Cx) (pins:List (Addr × Obj)) (D:Ends) (f:Flow) (s':Shared):Prop :=
 match f with
 | .next=>∃ σ' H',Inv X pins σ' H' s'/\D.nx σ' H'
 | .brk=>∃ σ' H',Inv X pins σ' H' s'/\D.bk σ' H'
 | .cont=>∃ σ' H',Inv X pins σ' H' s'/\D.ct σ' H'
 | .ret u=>∃ v σ' H',Inv X pins σ' H' s'/\RelV v u/\D.rt v H'
def PE (X:Cx) (e:Expr) (t:TE):Prop :=
 ∀ (pins:List (Addr × Obj)) (s:Shared) (σ:St) (H:Hp) (Q:VK),Inv X pins σ H s->t σ H Q->wpAny (model X.prog X.w) X.A (eval e X.env) (EP X pins σ Q) X.xe s
def PT (X:Cx) (e:Expr) (t:TT):Prop :=
 ∀ (pins:List (Addr × Obj)) (s:Shared) (σ:St) (H:Hp) (Q:Bool->Hp->Prop),Inv X pins σ H s->t σ H Q->wpAny (model X.prog X.w) X.A (isTrue e X.env (eval e X.env)) (TP X pins σ Q) X.xe s
def PW (X:Cx) (e:Expr) (t:TT):Prop :=
 ∀ (whole:Sem Value) (pins:List (Addr × Obj)) (s:Shared) (σ:St) (H:Hp) (Q:Bool->Hp->Prop),Inv X pins σ H s->t σ H Q->wpAny (model X.prog X.w) X.A (isTrue e X.env whole) (TP X pins σ Q) X.xe s
theorem PW.pt {t:TT} (h:PW X e t):PT X e t:=h _
def PA (X:Cx) (es:List Expr) (t:TA):Prop :=
 ∀ (pos:Pos) (pins:List (Addr × Obj)) (s:Shared) (σ:St) (H:Hp) (Q:List V->Hp->Prop),Inv X pins σ H s->t σ H Q->wpAny (model X.prog X.w) X.A (spliced (backTo pos (starEach es X.env))) (AP X pins σ Q) X.xe s
def PS (X:Cx) (st:Stmt) (t:TS):Prop :=
 ∀ (pins:List (Addr × Obj)) (s:Shared) (σ:St) (H:Hp) (D:Ends),Inv X pins σ H s->t D σ H->wpAny (model X.prog X.w) X.A (exec st X.env) (SP X pins D) X.xe s
def PSs (X:Cx) (st:List Stmt) (t:TS):Prop :=
 ∀ (pins:List (Addr × Obj)) (s:Shared) (σ:St) (H:Hp) (D:Ends),Inv X pins σ H s->t D σ H->wpAny (model X.prog X.w) X.A (execs st X.env) (SP X pins D) X.xe s
theorem cp {α:Type} {t:Sem α} {Q Q':α->Shared->Prop} {E:Value->Shared->Prop} (h:wpAny M A t Q E s) (hQ:∀ a s,Q a s->Q' a s):wpAny M A t Q' E s:=wpAny_mono h hQ fun _ _ x=>x
section
def pM (i:Nat):TE:=fun σ H Q=>∃ v,σ[i]? = some (some v)/\Q v H
def tC (v:V):TE:=fun _ H Q=>Q v H
theorem Hq (hN:X.N[i]? = some x) (hv:Nq X.env.scope x) (hd:(x == ("__debug__":Str)) = false:=by decide) (jN:(x == ("__classdict__":Str)) = false:=by decide):PE X (.Name x pos) (pM i):=by
 intro pins s σ H Q I h;obtain ⟨v,e,h⟩:=h;obtain ⟨m,hn,hl⟩:=I.loc;obtain ⟨u,r,l⟩:=hl i x v hN e hv;have fin:EP X pins σ Q u s:=⟨v,H,I,r,h⟩
 rcases l with ⟨hk,hm⟩ | ⟨hk,c,hc,qN⟩
 ·exact wpAny_Name (wpAny_loadName_local I.ok.kind hk hn hm fin) hd
 ·rcases hk with hk | hk
  ·exact wpAny_Name (wpAny_loadName_cell I.ok.kind hk hc qN fin) hd
  ·exact wpAny_Name (wpAny_loadName_free I.ok.kind hk hc qN fin jN) hd
theorem Hy {i j pos}:PE X (.Constant (.int i) j pos) (tC (.int i)):=fun _ _ _ H _ I h=>wpAny_Constant_int ⟨.int i,H,I.tok _,⟨_,rfl⟩,h⟩
theorem Ko {b j pos}:PE X (.Constant (.bool b) j pos) (tC (.bl b)):=fun _ _ _ H _ I h=>Constant_bool ⟨.bl b,H,I,rfl,h⟩
theorem Hw {j pos}:PE X (.Constant .none j pos) (tC .non):=fun _ _ _ H _ I h=>Constant_none ⟨.non,H,I,rfl,h⟩
theorem Hr {x j pos}:PE X (.Constant (.str x) j pos) (tC (.str x)):=fun _ _ _ H _ I h=>Calls.Constant_str ⟨.str x,H,I.tok _,⟨_,rfl⟩,h⟩
def Gl (X:Cx) (x:Str):Prop:=X.env.kindOf x = some .globalImplicit
theorem xO {E : Value -> Shared -> Prop} {Q : Value -> Shared -> Prop} (I : Inv X pins σ H s) (hg : Gl X x) (hm : X.mg x = some u) (h : Q u s)
    (hd:(x == ("__debug__":Str)) = false:=by decide):wpAny (model X.prog X.w) X.A (eval (.Name x pos) X.env) Q E s :=
 Calls.Name_function_global I.ok.kind hg (Calls.loadGlobal_global (by rw [I.ok.glob];exact I.mod.glob.keeps I.bk) hm h) hd
theorem lK {E : Value -> Shared -> Prop} {Q : Value -> Shared -> Prop} (I : Inv X pins σ H s) (hg : Gl X x) (hm : X.mg x = none) (hv : bootBuiltins x = some u) (h : Q u s)
    (hn:x ≠ "__name__":=by decide) (hd:(x == ("__debug__":Str)) = false:=by decide):wpAny (model X.prog X.w) X.A (eval (.Name x pos) X.env) Q E s:=by
 obtain ⟨mb,h1,h2⟩:=I.mod.blt;exact Calls.Name_function_global I.ok.kind hg (Calls.loadGlobal_builtin (by rw [I.ok.glob];exact I.mod.glob.keeps I.bk) hm (by rw [I.ok.blt];exact h1.keeps I.bk) ((h2 x hn).trans hv) h) hd
theorem DQ (hg:Gl X x) (hm:X.mg x = some u) (r:RelV v u) (hd:(x == ("__debug__":Str)) = false:=by decide):PE X (.Name x pos) (tC v) :=
 fun _ _ _ H _ I h=>xO I hg hm ⟨v,H,I,r,h⟩ hd
theorem DU (hg:Gl X x) (hm:X.mg x = none) (hv:bootBuiltins x = some u) (r:RelV v u) (hn:x ≠ "__name__":=by decide) (hd:(x == ("__debug__":Str)) = false:=by decide):PE X (.Name x pos) (tC v) :=
 fun _ _ _ H _ I h=>lK I hg hm hv ⟨v,H,I,r,h⟩ hn hd
variable {a b:Expr} {tb:TE}
def tB (t:TE):TT:=fun σ H Q=>t σ H fun x H1=>∃ c,x = .bl c/\Q c H1
theorem Ha {t:TE} (h:PE X e t) (he:∀ whole,isTrue e X.env whole = (do let v <- whole;standAt e.pos;holding [v] (truthy v)):=by intro _;rfl):PT X e (tB t):=by
 intro pins s σ H Q I hw;refine isTrue_plain (cp (h pins s σ H _ I hw) fun v s1 ⟨x,H1,I1,r1,q1⟩=>?_) (he _)
 obtain ⟨d,rfl,q⟩:=q1
 cases r1
 exact wpAny_truthy_bool ⟨H1,I1,q⟩
variable {tA CZ:TT} {rest:List Expr}
def F' (t u:TT):TT:=fun σ H Q=>t σ H fun c H1=>if c = true then u σ H1 Q else Q false H1
def NL (t u:TT):TT:=fun σ H Q=>t σ H fun c H1=>if c = true then Q true H1 else u σ H1 Q
def FX (t:TT):TT:=fun σ H Q=>t σ H fun c H1=>Q (!c) H1
theorem Dv (ha:PT X a tA):PW X (.BoolOp .And [a] pos) tA:=by
 intro wh pins s σ H Q I h;refine isTrue_and (cp (ha pins s σ H Q I h) fun c s1 e=>?_)
 cases c with
 | true=>exact isTrue_and_nil e
 | false=>exact e
theorem G0 (ha:PT X a tA):PW X (.BoolOp .Or [a] pos) tA:=by
 intro wh pins s σ H Q I h;refine isTrue_or (cp (ha pins s σ H Q I h) fun c s1 e=>?_)
 cases c with
 | false=>exact isTrue_or_nil e
 | true=>exact e
theorem G' (ha:PT X a tA) (hb:PW X (.BoolOp .And (b :: rest) pos) CZ):PW X (.BoolOp .And (a :: b :: rest) pos) (F' tA CZ):=by
 intro wh pins s σ H Q I h;refine isTrue_and (cp (ha pins s σ H _ I h) fun c s1 ⟨H1,I1,q1⟩=>?_)
 cases c with
 | true=>exact hb wh pins s1 σ H1 Q I1 q1
 | false=>exact ⟨H1,I1,q1⟩
theorem Kb (ha:PT X a tA) (hb:PW X (.BoolOp .Or (b :: rest) pos) CZ):PW X (.BoolOp .Or (a :: b :: rest) pos) (NL tA CZ):=by
 intro wh pins s σ H Q I h;refine isTrue_or (cp (ha pins s σ H _ I h) fun c s1 ⟨H1,I1,q1⟩=>?_)
 cases c with
 | true=>exact ⟨H1,I1,q1⟩
 | false=>exact hb wh pins s1 σ H1 Q I1 q1
theorem Hb (ha:PT X a tA):PT X (.UnaryOp .Not a pos) (FX tA):=by
 intro pins s σ H Q I h;exact isTrue_not (ha pins s σ H (fun c H1=>Q (!c) H1) I h)
def Ab (ta tb:TE):TE:=fun σ H Q=>ta σ H fun x H1=>∃ c,x = .bl c/\if c = true then tb σ H1 Q else Q (.bl false) H1
def FW (ta tb:TE):TE:=fun σ H Q=>ta σ H fun x H1=>∃ c,x = .bl c/\if c = true then Q (.bl true) H1 else tb σ H1 Q
def zU (ta:TE):TE:=fun σ H Q=>ta σ H fun x H1=>∃ c,x = .bl c/\Q (.bl (!c)) H1
theorem Hu {op} {t:TE} (h:PE X a t):PE X (.BoolOp op [a] pos) t:=fun pins s σ H Q I hw=>BoolOp_one (h pins s σ H Q I hw)
theorem Hz (ha:PE X a ta) (hb:PE X (.BoolOp .And (b :: rest) pos) tb):PE X (.BoolOp .And (a :: b :: rest) pos) (Ab ta tb):=by
 intro pins s σ H Q I h;refine BoolOp_and (cp (ha pins s σ H _ I h) fun v s1 ⟨x,H1,I1,r1,q1⟩=>?_)
 obtain ⟨c,rfl,q1⟩:=q1
 cases r1
 refine wpAny_truthy_bool ?_
 cases c with
 | true=>exact hb pins s1 σ H1 Q I1 q1
 | false=>exact ⟨.bl false,H1,I1,rfl,q1⟩
theorem Ki (ha:PE X a ta) (hb:PE X (.BoolOp .Or (b :: rest) pos) tb):PE X (.BoolOp .Or (a :: b :: rest) pos) (FW ta tb):=by
 intro pins s σ H Q I h;refine BoolOp_or (cp (ha pins s σ H _ I h) fun v s1 ⟨x,H1,I1,r1,q1⟩=>?_)
 obtain ⟨c,rfl,q1⟩:=q1
 cases r1
 refine wpAny_truthy_bool ?_
 cases c with
 | false=>exact hb pins s1 σ H1 Q I1 q1
 | true=>exact ⟨.bl true,H1,I1,rfl,q1⟩
theorem Hv (ha:PE X a ta):PE X (.UnaryOp .Not a pos) (zU ta):=by
 intro pins s σ H Q I h;refine UnaryOp_ (cp (ha pins s σ H _ I h) fun v s1 ⟨x,H1,I1,r1,q1⟩=>?_)
 obtain ⟨c,rfl,q1⟩:=q1
 cases r1
 exact not_of (wpAny_truthy_bool ⟨.bl (!c),H1,I1,rfl,q1⟩)
def NN (t:TT) (ta tb:TE):TE:=fun σ H Q=>t σ H fun c H1=>if c = true then ta σ H1 Q else tb σ H1 Q
theorem Bc (hc:PT X c tA) (ha:PE X a ta) (hb:PE X b tb):PE X (.IfExp c a b pos) (NN tA ta tb):=by
 intro pins s σ H Q I h;refine wpAny_IfExp (cp (hc pins s σ H _ I h) fun d s1 ⟨H1,I1,q1⟩=>?_)
 cases d with
 | true=>exact ha pins s1 σ H1 Q I1 q1
 | false=>exact hb pins s1 σ H1 Q I1 q1
end
def SqL (K:W.Frag) (H:Hp) (a:Addr) (xs:List V):Prop :=
 Rd H a (.lst xs) \/
  ∃ (o:Obj) (its:Array Value) (n:Nat),K.lookup a = some o/\o.cls = .type "list"/\o.dict = none/\o.data = .seq its n/\its.size <= sizeLine/\Vals xs its.toList
def SqT (K:W.Frag) (H:Hp) (a:Addr) (xs:List V):Prop :=
 Rd H a (.tup xs) \/
  ∃ (o:Obj) (its:Array Value) (n:Nat),K.lookup a = some o/\o.cls = .type "tuple"/\o.data = .seq its n/\its.size <= sizeLine/\Vals xs its.toList
def Xb:Value->Option V
 | .none=>some .non
 | .bool b=>some (.bl b)
 | .int i _=>some (.int i)
 | .str x _=>some (.str x)
 | .bytes b _=>some (.byt b)
 | .float b _=>some (.flt b)
 | .ref a=>some (.ref a)
 | .type n=>some (.ty n)
 | _=>none
theorem RelV.abs {x:V} (r:RelV x u):Xb u = some x:=by
 cases x with
 | non=>cases r;rfl
 | bl _=>cases r;rfl
 | int _=>obtain ⟨t,rfl⟩:=r;rfl
 | str _=>obtain ⟨t,rfl⟩:=r;rfl
 | byt _=>obtain ⟨t,rfl⟩:=r;rfl
 | flt _=>obtain ⟨t,rfl⟩:=r;rfl
 | ref _=>cases r;rfl
 | ty _=>cases r;rfl
theorem RelV.inj {x y:V} (r:RelV x u) (q:RelV y u):x = y:=Option.some.inj (r.abs.symm.trans q.abs)
theorem Vals.inj:∀ {xs ys:List V} {us:List Value},Vals xs us->Vals ys us->xs = ys
 | _,_,_,.nil,.nil=>rfl
 | _,_,_,.cons r t,.cons r' t'=>by rw [r.inj r',Vals.inj t t']
section
variable {ys:List V}
theorem SqL.of (h:H a = some (.lst xs)):SqL K H a xs:=.inl (.inl h)
theorem SqT.of (h:H a = some (.tup xs)):SqT K H a xs:=.inl (.inl h)
theorem Inv.list (I:Inv X pins σ H s) (h:SqL X.K H a xs):∃ its:List Value,Vals xs its/\PlainL s.heap a its.toArray/\xs.length <= sizeLine:=by
 rcases h with h | ⟨o,its,n,hk,hc,hd,hs,hz,r⟩
 ·obtain ⟨z,its,n,r,e⟩:=h.ok I.hok;exact ⟨its,r,⟨_,n,e,rfl,rfl,rfl⟩,z⟩
 ·refine ⟨its.toList,r,⟨o,n,I.kIn a o hk,hc,hd,by simpa using hs⟩,?_⟩;have e:=r.length;simp only [Array.length_toList] at e;omega
theorem Inv.tuple (I:Inv X pins σ H s) (h:SqT X.K H a xs):∃ its:List Value,Vals xs its/\IsTup s.heap a its.toArray/\xs.length <= sizeLine:=by
 rcases h with h | ⟨o,its,n,hk,hc,hs,hz,r⟩
 ·obtain ⟨z,its,r,p⟩:=h.ok I.hok;exact ⟨its,r,p,z⟩
 ·refine ⟨its.toList,r,⟨o,I.kIn a o hk,hc,n,by simpa using hs⟩,?_⟩;have e:=r.length;simp only [Array.length_toList] at e;omega
theorem Inv.list_inj (I:Inv X pins σ H s) (h:SqL X.K H a xs) (h':SqL X.K H a ys):xs = ys:=by
 obtain ⟨its,r,⟨o,n,e,_,_,d⟩,_⟩:=I.list h;obtain ⟨its',r',⟨o',n',e',_,_,d'⟩,_⟩:=I.list h';rw [e] at e';cases e';rw [d] at d'
 injection d' with d1 _
 have:its = its':=by simpa using congrArg Array.toList d1
 subst this;exact r.inj r'
theorem Inv.tuple_inj (I:Inv X pins σ H s) (h:SqT X.K H a xs) (h':SqT X.K H a ys):xs = ys:=by
 obtain ⟨its,r,⟨o,e,_,n,d⟩,_⟩:=I.tuple h;obtain ⟨its',r',⟨o',e',_,n',d'⟩,_⟩:=I.tuple h';rw [e] at e';cases e';rw [d] at d'
 injection d' with d1 _
 have:its = its':=by simpa using congrArg Array.toList d1
 subst this;exact r.inj r'
end
abbrev Cx.wish (X:Cx) (E:Value->Shared->Prop):Cx:={ X with xe:=E }
abbrev Cx.nox (X:Cx):Cx:=X.wish fun _ _=>False
theorem Cx.Ok.wish (ok:X.Ok) (E:Value->Shared->Prop):(X.wish E).Ok :=
 ⟨ok.mod,ok.kind,ok.glob,ok.blt,ok.above,ok.inj,ok.has,ok.cab,ok.hd,ok.frames,ok.stk,ok.exf,ok.bs,ok.bsz,ok.noex,ok.exfs,ok.funs,ok.frf⟩
theorem Cx.Ok.unwish {E:Value->Shared->Prop} (ok:(X.wish E).Ok):X.Ok :=
 ⟨ok.mod,ok.kind,ok.glob,ok.blt,ok.above,ok.inj,ok.has,ok.cab,ok.hd,ok.frames,ok.stk,ok.exf,ok.bs,ok.bsz,ok.noex,ok.exfs,ok.funs,ok.frf⟩
section
variable {E:Value->Shared->Prop}
theorem Inv.wish (I:Inv X pins σ H s) (E:Value->Shared->Prop):Inv (X.wish E) pins σ H s:=⟨I.ok.wish E,I.os,I.bare,I.base,I.loc,I.cell,I.free,I.freeC,I.pin,I.hok,I.len⟩
theorem Inv.unwish (I:Inv (X.wish E) pins σ H s):Inv X pins σ H s:=⟨I.ok.unwish,I.os,I.bare,I.base,I.loc,I.cell,I.free,I.freeC,I.pin,I.hok,I.len⟩
theorem SP.unwish {f:Flow} (h:SP (X.wish E) pins D f s'):SP X pins D f s':=by
 cases f with
 | next=>obtain ⟨σ',H',I,q⟩:=h;exact ⟨σ',H',I.unwish,q⟩
 | brk=>obtain ⟨σ',H',I,q⟩:=h;exact ⟨σ',H',I.unwish,q⟩
 | cont=>obtain ⟨σ',H',I,q⟩:=h;exact ⟨σ',H',I.unwish,q⟩
 | ret u=>obtain ⟨v,σ',H',I,r,q⟩:=h;exact ⟨v,σ',H',I.unwish,r,q⟩
theorem PSs.nox {st:List Stmt} {t:TS} (h:PSs X.nox st t):PSs X st t:=fun pins s σ H D I hw =>
 wpAny_mono (h pins s σ H D (I.wish _) hw) (fun _ _ q=>q.unwish) fun _ _ z=>False.elim z
end
section
variable {st:Stmt} {rest:List Stmt} {t u:TS}
def zV:TS:=fun D σ H=>D.nx σ H
def zT (t u:TS):TS:=fun D σ H=>t { D with nx:=u D } σ H
theorem DB:PSs X [] zV:=fun _ _ σ H _ I h=>wpAny_execs_nil ⟨σ,H,I,h⟩
theorem A4 (h1:PS X st t) (h2:PSs X rest u):PSs X (st :: rest) (zT t u):=by
 intro pins s σ H D I h;refine wpAny_execs_cons (cp (h1 pins s σ H { D with nx:=u D } I h) fun f s1 q=>?_)
 cases f with
 | next =>
  obtain ⟨σ',H',I',q⟩:=q;exact h2 pins s1 σ' H' D I' q
 | ret v=>exact q
 | brk=>exact q
 | cont=>exact q
theorem DA (h1:PS X st t):PSs X [st] t:=by
 intro pins s σ H D I h;refine wpAny_execs_cons (cp (h1 pins s σ H D I h) fun f s1 q=>?_)
 cases f with
 | next=>exact wpAny_execs_nil q
 | ret v=>exact q
 | brk=>exact q
 | cont=>exact q
theorem Inv.quiet (I:Inv X pins σ H s):interactive X.env = false:=by simp [interactive,I.ok.kind]
def zY (te:TE):TS:=fun D σ H=>te σ H fun _ H1=>D.nx σ H1
theorem DC (he:PE X e te) (hs:swapsWith e none pos.line X.env = pure false:=by rfl):PS X (.Expr e pos) (zY te):=by
 intro pins s σ H D I h;exact wpAny_Expr_any (cp (he pins s σ H _ I h) fun v s1 ⟨x,H1,I1,r1,q1⟩=>⟨σ,H1,I1,q1⟩) I.quiet hs
def CV (te:TE):TS:=fun D σ H=>te σ H D.rt
theorem He (he:PE X e te):PS X (.Return (some e) pos) (CV te):=by
 intro pins s σ H D I h;exact wpAny_Return_some (cp (he pins s σ H _ I h) fun v s1 ⟨x,H1,I1,r1,q1⟩=>⟨x,σ,H1,I1,r1,q1⟩)
def FY (c:TT) (t u:TS):TS:=fun D σ H=>c σ H fun b H1=>if b = true then t D σ H1 else u D σ H1
theorem Kc {a b:List Stmt} {tc:TT} (hc:PT X c tc) (ha:PSs X a t) (hb:PSs X b u):PS X (.If c a b pos) (FY tc t u):=by
 intro pins s σ H D I h;refine wpAny_If (cp (hc pins s σ H _ I h) fun d s1 ⟨H1,I1,q1⟩=>?_)
 cases d with
 | true=>exact ha pins s1 σ H1 D I1 q1
 | false=>exact hb pins s1 σ H1 D I1 q1
def zW:TS:=fun _ _ _=>False
theorem A5:PS X st zW:=fun _ _ _ _ _ _ h=>h.elim
end
abbrev TG:=V->St->Hp->(St->Hp->Prop)->Prop
variable {g:TG}
abbrev zH:=List V->St->Hp->(St->Hp->Prop)->Prop
def PG (X:Cx) (target:Expr) (t:TG):Prop :=
 ∀ (pins:List (Addr × Obj)) (s:Shared) (σ:St) (H:Hp) (v:V) (u:Value) (Q:St->Hp->Prop),Inv X pins σ H s->RelV v u->t v σ H Q ->
  wpAny (model X.prog X.w) X.A (assign target X.env u) (fun _ s'=>∃ σ' H',Inv X pins σ' H' s'/\Q σ' H') X.xe s
def MD (X:Cx) (ts:List Expr) (t:zH):Prop :=
 ∀ (pins:List (Addr × Obj)) (s:Shared) (σ:St) (H:Hp) (vs:List V) (us:List Value) (Q:St->Hp->Prop),Inv X pins σ H s->Vals vs us->t vs σ H Q ->
  wpAny (model X.prog X.w) X.A (assignInOrder ((assignEach ts X.env).map (·.2)) us) (fun _ s'=>∃ σ' H',Inv X pins σ' H' s'/\Q σ' H') X.xe s
section
def uZ (i:Nat):TG:=fun v σ H Q=>Q (σ.set i (some v)) H
theorem DK (hN:X.N.Nodup) (hi:X.N[i]? = some x) (hx:Loc X.env.scope x) (hf:X.fn x = true \/ X.env.scope.names.lookup x = some .local:=by first | exact .inl rfl | exact .inr rfl | assumption):PG X (.Name x pos) (uZ i):=by
 intro pins s σ H v u Q I r h;exact wpAny_assign_Name (j0 I hN hi hx r (fun s' I'=>⟨_,H,I',h⟩) hf)
def II:zH:=fun vs σ H Q=>vs = []/\Q σ H
def B3 (t:TG) (u:zH):zH:=fun vs σ H Q=>∃ v r,vs = v :: r/\t v σ H fun σ' H'=>u r σ' H' Q
theorem DJ:MD X [] II:=by
 intro pins s σ H vs us Q I r h;obtain ⟨e,h⟩:=h;subst e
 cases r
 exact assignInOrder_nil ⟨σ,H,I,h⟩
theorem A' {t : TG} {u : zH} (h1 : PG X e t) (h2 : MD X es u)
    (hs:(assignEach (e :: es) X.env).map (·.2) = assign e X.env :: (assignEach es X.env).map (·.2):=by rfl):MD X (e :: es) (B3 t u):=by
 intro pins s σ H vs us Q I r h;obtain ⟨v,vr,e1,h⟩:=h;subst e1
 cases r with
 | cons r rr =>
  rw [hs];refine assignInOrder_cons (cp (h1 pins s σ H _ _ _ I r h) fun _ s1 ⟨σ1,H1,I1,q1⟩=>?_)
  exact h2 pins s1 σ1 H1 _ _ Q I1 rr q1
def IH (K:W.Frag) (n:Nat) (t:zH):TG:=fun v σ H Q=>∃ a xs,v = .ref a/\SqT K H a xs/\xs.length = n/\t xs σ H Q
theorem Ho {t : zH} (hc : X.calm = true) (h : MD X es t)
    (hn:(assignEach es X.env).length = n:=by rfl) (xX:(assignEach es X.env).findIdx? (·.1) = none:=by rfl):PG X (.Tuple es k pos) (IH X.K n t):=by
 intro pins s σ H v u Q I r hw;obtain ⟨a,xs,e1,hq,hl,hw⟩:=hw;subst e1
 cases r
 obtain ⟨its,rv,ht,hz⟩:=I.tuple hq;refine assign_Tuple_tuple (I.ok.hd hc) ht (by simp [hn,<- hl,rv.length]) xX fun h' hx=>?_
 have I1:Inv X pins σ H { s with heap:=h' }:=I.kept (t':=s.toks) fun b o e=>hx b o (Nat.ne_of_lt (Heap.lt_size e)) e
 exact h pins _ σ H xs _ Q I1 (by simpa using rv) hw
def Aa (te:TE) (g:TG):TS:=fun D σ H=>te σ H fun x H1=>g x σ H1 D.nx
theorem Hg (he : PE X e te) (hg : PG X tg g) (hs : swapsWithSole [tg] e pos.line X.env = pure false := by rfl) (hw : swappedStores [tg] e X.env = pure none := by rfl)
    (h1:(assignEach [tg] X.env).map (·.2) = [assign tg X.env]:=by rfl):PS X (.Assign [tg] e pos) (Aa te g):=by
 intro pins s σ H D I h;refine wpAny_Assign_stores (cp (he pins s σ H _ I h) fun v s1 ⟨x,H1,I1,r1,q1⟩=>?_) hs hw
 rw [h1];exact cp (hg pins s1 σ H1 x v _ I1 r1 q1) fun _ s2 q=>q
theorem Hc {pos' : Pos} (hN : X.N.Nodup) (hi : X.N[i]? = some x) (hx : Loc X.env.scope x) (he : PE X e te) (hs : swapsWith e (some (.Name x pos')) pos.line X.env = pure false := by rfl) (hf : X.fn x = true \/ X.env.scope.names.lookup x = some .local := by first | exact .inl rfl | exact .inr rfl | assumption) :
    PS X (.Assign [.Name x pos'] e pos) (Aa te (uZ i)):=by
 intro pins s σ H D I h;refine wpAny_Assign_Name (cp (he pins s σ H _ I h) fun v s1 ⟨y,H1,I1,r1,q1⟩=>?_) hs
 exact j0 I1 hN hi hx r1 (fun s2 I2=>⟨_,H1,I2,q1⟩) hf
end
structure It where
 go:Nat->Hp->Prop
 yld:Nat->Hp->V->Hp->Prop
 stop:Nat->Hp->Prop
def FpOk (X:Cx) (pins:List (Addr × Obj)) (H:Hp) (b:Addr):Prop :=
 H b = none/\b ≠ X.env.locals/\b ∉ X.fs/\(b ∈ X.ex \/ X.s₀.heap.objs.size <= b)/\(∀ x c,X.env.cells.lookup x = some c->c ≠ b)/\∀ p ∈ X.pn ++ pins,p.1 ≠ b
theorem Inv.fpOk (I:Inv X pins σ H s) (hb:s.heap.objs.size <= b) (hn:H' b = none):FpOk X pins H' b:=by
 refine ⟨hn,Nat.ne_of_gt (Nat.lt_of_lt_of_le I.lt hb),I.nofs hb,.inr (Nat.le_trans I.sz hb),fun x c e z=>?_,fun p hp z=>?_⟩
 ·obtain ⟨v,q⟩:=I.cell x c e;exact absurd (Nat.lt_of_lt_of_le q.lt (by rw [z];exact hb)) (Nat.lt_irrefl _)
 ·exact absurd (Nat.lt_of_lt_of_le (Heap.lt_size (I.pin p hp).1) (by rw [z];exact hb)) (Nat.lt_irrefl _)
structure Turn (P:Program) (w:World) (K:W.Frag) (tg:Expr) (J:It) (fp:List Addr) (it:Addr) (tn:Nat->Heap->Prop):Prop where
 mem:it ∈ fp
 obj:∀ i h,tn i h->∀ b ∈ fp,∃ o,h.get? b = some o/\∀ v,o.data ≠ .cell v
 keep:∀ i h h',tn i h->(∀ b ∈ fp,∀ o,h.get? b = some o->h'.get? b = some o)->tn i h'
 item:∀ (X:Cx),X.prog = P->X.w = w->X.K = K->X.calm = true->∀ (i:Nat) (pins:List (Addr × Obj)) (s:Shared) (σ:St) (H:Hp) (E:Value->Shared->Prop),Inv X pins σ H s->(∀ b ∈ fp,FpOk X pins H b)->tn i s.heap->J.go i H ->
  wpAny (model P w) X.A (pyNext (.ref it)) (fun r s1=>∃ u,r = some u /\
   wpAny (model P w) X.A (letOwnedTupleGo tg (.ref it) u) (fun _ s2=>∃ x H',Inv X pins σ H' s2/\RelV x u/\J.yld i H x H'/\tn (i + 1) s2.heap/\∀ b ∈ fp,H' b = none) E s1) E s
 done:∀ (X:Cx),X.prog = P->X.w = w->X.K = K->X.calm = true->∀ (i:Nat) (pins:List (Addr × Obj)) (s:Shared) (σ:St) (H:Hp) (E:Value->Shared->Prop),Inv X pins σ H s->(∀ b ∈ fp,FpOk X pins H b)->tn i s.heap->J.stop i H ->
  wpAny (model P w) X.A (pyNext (.ref it)) (fun r s1=>r = none/\Inv X pins σ H s1) E s
 self:∀ (A:Around) (i:Nat) (s:Shared) (Q:Value->Shared->Prop) (E:Value->Shared->Prop),tn i s.heap->Q (.ref it) s->wpAny (model P w) A (pyIter (.ref it)) Q E s
abbrev TI:=St->Hp->(It->Hp->Prop)->Prop
def YO (X:Cx) (pins:List (Addr × Obj)) (σ:St) (tg:Expr) (R:It->Hp->Prop) (Sv:Value) (s2:Shared):Prop :=
 ∃ (it:Addr) (fp:List Addr) (tn:Nat->Heap->Prop) (J:It) (H':Hp),Sv = .ref it/\Inv X pins σ H' s2/\Turn X.prog X.w X.K tg J fp it tn/\tn 0 s2.heap/\(∀ b ∈ fp,FpOk X pins H' b)/\R J H'
def PI (X:Cx) (tg iter:Expr) (wi:TI):Prop :=
 ∀ (pins:List (Addr × Obj)) (s:Shared) (σ:St) (H:Hp) (R:It->Hp->Prop),Inv X pins σ H s->wi σ H R ->
  wpAny (model X.prog X.w) X.A (eval iter X.env) (fun v s1=>wpAny (model X.prog X.w) X.A (pyIter v) (YO X pins σ tg R) X.xe s1) X.xe s
theorem x4 {E : Value -> Shared -> Prop} {it : Addr} {o : Obj} {n : String} {vs : Array Value} {Q : Unit -> Shared -> Prop} (ho : s.heap.get? it = some o) (hc : o.cls = .type n) (hd : o.data = .fields vs)
    (hn:["enumerate","zip","dict_itemiterator","dict_reverseitemiterator","odict_iterator","itertools.zip_longest","itertools.pairwise"].contains n = false) (hQ:Q () s):wpAny M A (letOwnedTupleGo tg (.ref it) u) Q E s:=by
 unfold letOwnedTupleGo
 cases tg <;> first
  | exact wpAny_pure hQ
  | (cases u <;> first
      | exact wpAny_pure hQ
      | (refine wpAny_bind (wpAny_load ho ?_)
         rw [hc,hd];show wpAny M A (if (["enumerate","zip","dict_itemiterator","dict_reverseitemiterator","odict_iterator","itertools.zip_longest","itertools.pairwise"].contains n && vs[0]? == some (rawInt _)) = true then _ else _) Q E s
         rw [if_neg (by intro h;rw [hn,Bool.false_and] at h;cases h)];exact wpAny_pure hQ))
def EO (K:W.Frag) (a:Addr):It :=
 ⟨fun i H=>∃ xs x,SqL K H a xs/\xs[i]? = some x,fun i H x H'=>H' = H/\∀ xs,SqL K H a xs->xs[i]? = some x,fun i H=>∃ xs,SqL K H a xs/\xs.length <= i⟩
def EN (K:W.Frag) (a:Addr):It :=
 ⟨fun i H=>∃ xs x,SqT K H a xs/\xs[i]? = some x,fun i H x H'=>H' = H/\∀ xs,SqT K H a xs->xs[i]? = some x,fun i H=>∃ xs,SqT K H a xs/\xs.length <= i⟩
def CC (lo:Int) (n:Nat):It:=⟨fun i _=>i < n,fun i H x H'=>H' = H/\x = .int (lo + i),fun i _=>n <= i⟩
theorem yk (a it:Addr):Turn P w K tg (EO K a) [it] it (fun i h=>h.IsListIter it a i) where
 mem:=by simp
 obj:=fun i h st b hb=>by
  have e:b = it:=by simpa using hb
  subst e;obtain ⟨o,e,c,d⟩:=st;exact ⟨o,e,fun v z=>by rw [d] at z;cases z⟩
 keep:=fun i h h' st k=>st.at fun o e=>k it (by simp) o e
 item:=by
  intro X hP hw hK hc i pins s σ H E I hf st hg;subst hP hw hK;obtain ⟨xs,x,hq,hx⟩:=hg;obtain ⟨its,rv,p,hz⟩:=I.list hq;obtain ⟨u,hu,ru⟩:=rv.get hx;obtain ⟨f0,f1,f2,f3,f4,f5⟩:=hf it (by simp);refine wpAny_pyNext_list_item st p.isList (x:=u) (by simpa using hu) fun h' bj sb=>?_
  have I1:Inv X pins σ H { s with heap:=h' }:=I.turned (t':=s.toks) (fun b o hb e=>(sb.2 b hb).trans e) f0 f1 f3 f4 f5
  obtain ⟨o,e,c,d⟩:=id bj;exact ⟨u,rfl,x4 (s:={ s with heap:=h' }) e c d (by decide) ⟨x,H,I1,ru,⟨rfl,fun ys hy=>by rw [I.list_inj hy hq];exact hx⟩,bj,fun b hb=>(hf b hb).1⟩⟩
 done:=by
  intro X hP hw hK hc i pins s σ H E I hf st hg;subst hP hw hK;obtain ⟨xs,hq,hx⟩:=hg;obtain ⟨its,rv,p,hz⟩:=I.list hq;obtain ⟨f0,f1,f2,f3,f4,f5⟩:=hf it (by simp);have hl:=rv.length;exact wpAny_pyNext_list_end (I.ok.hd hc) st p.isList (by simp;omega) fun h' eb=>⟨rfl,I.turned (t':=s.toks) (fun b o hb e=>eb b o hb e) f0 f1 f3 f4 f5⟩
 self:=fun _ _ _ _ _ st h=>wpAny_pyIter_listiter st h
theorem vT (a it:Addr):Turn P w K tg (EN K a) [it] it (fun i h=>h.IsTupleIter it a i) where
 mem:=by simp
 obj:=fun i h st b hb=>by
  have e:b = it:=by simpa using hb
  subst e;obtain ⟨o,e,c,d⟩:=st;exact ⟨o,e,fun v z=>by rw [d] at z;cases z⟩
 keep:=fun i h h' st k=>st.at fun o e=>k it (by simp) o e
 item:=by
  intro X hP hw hK hc i pins s σ H E I hf st hg;subst hP hw hK;obtain ⟨xs,x,hq,hx⟩:=hg;obtain ⟨its,rv,p,hz⟩:=I.tuple hq;obtain ⟨u,hu,ru⟩:=rv.get hx;obtain ⟨f0,f1,f2,f3,f4,f5⟩:=hf it (by simp);refine wpAny_pyNext_tuple_item st (show s.heap.IsTuple a its.toArray from p) (x:=u) (by simpa using hu) fun h' bj sb=>?_
  have I1:Inv X pins σ H { s with heap:=h' }:=I.turned (t':=s.toks) (fun b o hb e=>(sb.2 b hb).trans e) f0 f1 f3 f4 f5
  obtain ⟨o,e,c,d⟩:=id bj;exact ⟨u,rfl,x4 (s:={ s with heap:=h' }) e c d (by decide) ⟨x,H,I1,ru,⟨rfl,fun ys hy=>by rw [I.tuple_inj hy hq];exact hx⟩,bj,fun b hb=>(hf b hb).1⟩⟩
 done:=by
  intro X hP hw hK hc i pins s σ H E I hf st hg;subst hP hw hK;obtain ⟨xs,hq,hx⟩:=hg;obtain ⟨its,rv,p,hz⟩:=I.tuple hq;obtain ⟨f0,f1,f2,f3,f4,f5⟩:=hf it (by simp);have hl:=rv.length;exact wpAny_pyNext_tuple_end (I.ok.hd hc) st (show s.heap.IsTuple a its.toArray from p) (by simp;omega) fun h' eb=>⟨rfl,I.turned (t':=s.toks) (fun b o hb e=>eb b o hb e) f0 f1 f3 f4 f5⟩
 self:=fun _ _ _ _ _ st h=>wpAny_pyIter_tupleiter st h
theorem vU (it:Addr) (lo:Int) (n:Nat):Turn P w K tg (CC lo n) [it] it (fun i h=>IsRangeIter h it (lo + (i:Nat) * 1) ((n:Int) - (i:Nat)) 1) where
 mem:=by simp
 obj:=fun i h st b hb=>by
  have e:b = it:=by simpa using hb
  subst e;exact ⟨_,st,fun v z=>by
   have z':Data.fields _ = Data.cell v:=z
   cases z'⟩
 keep:=fun i h h' st k=>k it (by simp) _ st
 item:=by
  intro X hP hw hK hc i pins s σ H E I hf st hg;subst hP hw hK;obtain ⟨f0,f1,f2,f3,f4,f5⟩:=hf it (by simp);have W:=Walks.range (prog:=X.prog) (w:=X.w) (I.ok.hd hc) it lo 1 n;refine W.item i s _ _ hg st fun v h' tk hv bj kk=>?_
  obtain ⟨t,rfl⟩:=hv;have I1:Inv X pins σ H { s with heap:=h',toks:=tk }:=I.turned (fun b o hb e=>kk b o (by simpa using hb) e) f0 f1 f3 f4 f5
  refine ⟨_,rfl,x4 (s:={ s with heap:=h',toks:=tk }) (n:="range_iterator") bj rfl rfl (by decide) ⟨.int (lo + i),H,I1,⟨t,?_⟩,⟨rfl,rfl⟩,bj,fun b hb=>(hf b hb).1⟩⟩
  rw [Int.mul_one]
 done:=by
  intro X hP hw hK hc i pins s σ H E I hf st hg;subst hP hw hK;obtain ⟨f0,f1,f2,f3,f4,f5⟩:=hf it (by simp);exact wpAny_pyNext_range_end (I.ok.hd hc) st (by have:n <= i:=hg;omega) fun h' eb=>⟨rfl,I.turned (t':=s.toks) (fun b o hb e=>eb b o hb e) f0 f1 f3 f4 f5⟩
 self:=fun _ _ _ _ _ st h=>wpAny_pyIter_rangeiter st h
section
def BL (K:W.Frag) (tl:TE):TI:=fun σ H R=>tl σ H fun x H1=>∃ a,x = .ref a/\(∃ xs,SqL K H1 a xs)/\R (EO K a) H1
def Ik (K:W.Frag) (tl:TE):TI:=fun σ H R=>tl σ H fun x H1=>∃ a,x = .ref a/\(∃ xs,SqT K H1 a xs)/\R (EN K a) H1
theorem DI {l:Expr} {tl:TE} (hl:PE X l tl):PI X tg l (BL X.K tl):=by
 intro pins s σ H R I h;refine cp (hl pins s σ H _ I h) fun v s1 ⟨x,H1,I1,r1,q1⟩=>?_
 obtain ⟨a,e,⟨xs,hq⟩,q⟩:=q1;subst e
 cases r1
 obtain ⟨its,rv,p,hz⟩:=I1.list hq;refine wpAny_pyIter_list p.isList ?_;refine ⟨s1.heap.objs.size,[s1.heap.objs.size],_,_,H1,rfl,I1.kept (t':=s1.toks) fun b o e=>Heap.get?_push_of_some _ e,yk a _,⟨_,Heap.get?_push_size _ rfl,rfl,rfl⟩,fun b hb=>?_,q⟩
 have e:b = s1.heap.objs.size:=by simpa using hb
 subst e;exact I1.fpOk (Nat.le_refl _) (I1.hok.fresh (Nat.le_refl _))
theorem Hm {l:Expr} {tl:TE} (hl:PE X l tl):PI X tg l (Ik X.K tl):=by
 intro pins s σ H R I h;refine cp (hl pins s σ H _ I h) fun v s1 ⟨x,H1,I1,r1,q1⟩=>?_
 obtain ⟨a,e,⟨xs,hq⟩,q⟩:=q1;subst e
 cases r1
 obtain ⟨its,rv,p,hz⟩:=I1.tuple hq;refine wpAny_pyIter_tuple (show s1.heap.IsTuple a its.toArray from p) ?_;refine ⟨s1.heap.objs.size,[s1.heap.objs.size],_,_,H1,rfl,I1.kept (t':=s1.toks) fun b o e=>Heap.get?_push_of_some _ e,vT a _,⟨_,Heap.get?_push_size _ rfl,rfl,rfl⟩,fun b hb=>?_,q⟩
 have e:b = s1.heap.objs.size:=by simpa using hb
 subst e;exact I1.fpOk (Nat.le_refl _) (I1.hok.fresh (Nat.le_refl _))
theorem ud {R : It -> Hp -> Prop} {E : Value -> Shared -> Prop} {lo hi : Int} {t u v : Tok} {tk : Nat} (I : Inv X pins σ H s) (h1 : -(2 ^ 62) <= lo) (h2 : lo < 2 ^ 62) (h3 : -(2 ^ 62) <= hi) (h4 : hi < 2 ^ 62)
    (q:R (CC lo (hi - lo).toNat) H):wpAny (model X.prog X.w) X.A (pyIter (.ref s.heap.objs.size)) (YO X pins σ tg R) E { s with heap:=s.heap.push { cls:=.type "range",data:=.fields #[.int lo t,.int hi u,.int 1 v] },toks:=tk }:=by
 refine wpAny_pyIter_range (IsRange.new ..) (small_one h1 h2 h3 h4) ?_;have I1:Inv X pins σ H { s with heap:=s.heap.push { cls:=.type "range",data:=.fields #[.int lo t,.int hi u,.int 1 v] },toks:=tk }:=I.kept fun b o e=>Heap.get?_push_of_some _ e
 refine ⟨(s.heap.push { cls:=.type "range",data:=.fields #[.int lo t,.int hi u,.int 1 v] }).objs.size,[(s.heap.push { cls:=.type "range",data:=.fields #[.int lo t,.int hi u,.int 1 v] }).objs.size],_,_,H,rfl,
  I1.kept (t':=tk) fun b o e=>Heap.get?_push_of_some _ e,vU _ lo (hi - lo).toNat,?_,fun b hb=>?_,q⟩
 ·have e1:lo + ((0:Nat):Int) * 1 = lo:=by simp
  have e2:(((hi - lo).toNat:Nat):Int) - ((0:Nat):Int) = Builtin.Range.rangeSize lo hi 1:=by rw [rangeSize_one];split <;> omega
  show IsRangeIter _ _ (lo + ((0:Nat):Int) * 1) ((((hi - lo).toNat:Nat):Int) - ((0:Nat):Int)) 1;rw [e1,e2];exact Heap.get?_push_size _ rfl
 ·have e:b = (s.heap.push { cls:=.type "range",data:=.fields #[.int lo t,.int hi u,.int 1 v] }).objs.size:=by simpa using hb
  subst e;exact I1.fpOk (Nat.le_refl _) (I1.hok.fresh (Nat.le_refl _))
def xU (ta:TA):TI:=fun σ H R=>ta σ H fun vs H1=>∃ j:Int,vs = [.int j]/\-(2 ^ 62) <= j/\j < 2 ^ 62/\R (CC 0 j.toNat) H1
def xT (ta:TA):TI:=fun σ H R=>ta σ H fun vs H1=>∃ i j:Int,vs = [.int i,.int j]/\(-(2 ^ 62) <= i/\i < 2 ^ 62/\-(2 ^ 62) <= j/\j < 2 ^ 62)/\R (CC i (j - i).toNat) H1
theorem yN {a:Expr} {ta:TA} (hg:Gl X "range") (hm:X.mg "range" = none) (ha:PA X [a] ta) (hs:starEach [a] X.env = [(false,eval a X.env)]:=by rfl):PI X tg (.Call (.Name "range" p) [a] [] pos) (xU ta):=by
 intro pins s σ H R I h;refine Call_ (lK I hg hm boot_range (PyProof.Rows.callWith_type1 (cp (ha pos pins s σ H _ I h) fun us s1 ⟨vs,H1,I1,r1,q1⟩=>?_) hs rfl))
 obtain ⟨j,e,q1,q2,q⟩:=q1;subst e
 cases r1 with
 | cons r rr =>
  cases rr
  obtain ⟨t,rfl⟩:=r;exact call_range_1 (ud I1 (by omega) (by omega) q1 q2 (by simpa using q))
theorem yM {a b : Expr} {ta : TA} {p pos : Pos} (hg : Gl X "range") (hm : X.mg "range" = none) (ha : PA X [a, b] ta) (hs : starEach [a, b] X.env = [(false, eval a X.env), (false, eval b X.env)] := by rfl) (SQ : starEach [b] X.env = [(false, eval b X.env)] := by rfl) :
    PI X tg (.Call (.Name "range" p) [a,b] [] pos) (xT ta):=by
 intro pins s σ H R I h;refine Call_ (lK I hg hm boot_range (PyProof.Rows.callWith_type1 (cp (ha pos pins s σ H _ I h) fun us s1 ⟨vs,H1,I1,r1,q1⟩=>?_) (by rw [hs,SQ]) (by rw [SQ];rfl)))
 obtain ⟨i,j,e,⟨q1,q2,q3,q4⟩,q⟩:=q1;subst e
 cases r1 with
 | cons r rr =>
  cases rr with
  | cons r' rr =>
   cases rr
   obtain ⟨t,rfl⟩:=r;obtain ⟨t',rfl⟩:=r';exact call_range_2 (ud I1 q1 q2 q3 q4 q)
def FZ (wi:TI) (g:TG) (tb:TS):TS:=fun D σ H=>wi σ H fun J H1=>∃ W:Nat->Nat->St->Hp->Prop,(∃ m,W 0 m σ H1)/\∀ i m σ H,W i m σ H ->
 (J.stop i H/\D.nx σ H) \/ (J.go i H/\∃ N:St->Hp->Prop,(∀ σ' H',N σ' H'->∃ m',m' < m/\W (i + 1) m' σ' H')/\∀ x H',J.yld i H x H'->g x σ H' fun σ2 H2=>tb { D with nx:=N,ct:=N,bk:=D.nx } σ2 H2)
def il (fp:List Addr) (h:Heap):List (Addr × Obj):=fp.filterMap fun b=>(h.get? b).map fun o=>(b,o)
theorem gB {o:Obj} (hb:b ∈ fp) (e:h.get? b = some o):(b,o) ∈ il fp h:=List.mem_filterMap.mpr ⟨b,hb,by rw [e];rfl⟩
theorem qE {p:Addr × Obj} (hp:p ∈ il fp h):p.1 ∈ fp/\h.get? p.1 = some p.2:=by
 obtain ⟨b,hb,e⟩:=List.mem_filterMap.mp hp
 cases q:h.get? b with
 | none=>rw [q] at e;cases e
 | some o =>
  rw [q] at e;have e':(b,o) = p:=Option.some.inj e;subst e';exact ⟨hb,q⟩
theorem Inv.pinned (I:Inv X pins σ H s) (hf:∀ b ∈ fp,FpOk X pins H b) (ho:∀ b ∈ fp,∃ o,s.heap.get? b = some o/\∀ v,o.data ≠ .cell v):Inv X (pins ++ il fp s.heap) σ H s :=
 I.pins_of fun p hp=>(List.mem_append.mp hp).elim (fun z=>I.pin p (List.mem_append_right _ z)) fun z=>by
  obtain ⟨hb,e⟩:=qE z;obtain ⟨f0,f1,f2,_⟩:=hf p.1 hb;obtain ⟨o,e',d⟩:=ho p.1 hb;rw [e] at e';cases e';exact ⟨e,f0,f1,f2,d⟩
theorem Inv.unpinned {pl:List (Addr × Obj)} (I:Inv X (pins ++ pl) σ H s):Inv X pins σ H s:=I.pins_of fun p hp=>I.pin p (List.mem_append_right _ (List.mem_append_left _ hp))
theorem Hf {iter : Expr} {body : List Stmt} {wi : TI} (hp : PassesOwn (model X.prog X.w) X.A X.env X.xe) (hc : X.calm = true) (hi : PI X tg iter wi) (hg : PG X tg g) (hb : PSs X body tb)
    (hs:∀ x,foldedSetIterable iter X.env x = pure x:=by intro _;rfl):PS X (.For tg iter body [] pos) (FZ wi g tb):=by
 intro pins s σ H D I h;refine wpAny_For (cp (hi pins s σ H _ I h) fun v s1 h1=>cp h1 fun Sv s2 h2=>?_) hs
 obtain ⟨it,fp,tn,J,H2,e,I2,T,Ji,f2,W,⟨m0,w0⟩,turn⟩:=h2;subst e;have vZ:∀ {H':Hp},(∀ b ∈ fp,H' b = none)->∀ b ∈ fp,FpOk X pins H' b:=fun hn b hb=>⟨hn b hb,(f2 b hb).2⟩
 refine codeAny_forLoop_any (fun n s'=>∃ i σ' H',Inv X pins σ' H' s'/\tn i s'.heap/\(∀ b ∈ fp,H' b = none)/\W i n σ' H') ?_ m0 ⟨0,σ,H2,I2,Ji,fun b hb=>(f2 b hb).1,w0⟩
 rintro n s3 ⟨i,σ3,H3,I3,Gf,Yn,w3⟩
 rcases turn i n σ3 H3 w3 with ⟨stop,qn⟩ | ⟨go,N,hN,step⟩
 ·refine wpAny_passesOwn hp (cp (T.done X rfl rfl rfl hc i pins s3 σ3 H3 X.xe I3 (vZ Yn) Gf stop) fun r s4 ⟨hr,I4⟩=>?_)
  subst hr;exact wpAny_execs_nil ⟨σ3,H3,I4,qn⟩
 ·refine wpAny_passesOwn hp (cp (T.item X rfl rfl rfl hc i pins s3 σ3 H3 X.xe I3 (vZ Yn) Gf go) fun r s4 ⟨u,hr,h4⟩=>?_)
  subst hr;refine wpAny_passesOwn hp (cp h4 fun _ s5 ⟨x,H5,I5,r5,y5,NO,fr5⟩=>?_);have I5':=I5.pinned (vZ fr5) (T.obj _ _ NO);refine wpAny_passesOwn hp (cp (hg _ s5 σ3 H5 x u _ I5' r5 (step x H5 y5)) fun _ s6 ⟨σ6,H6,I6,q6⟩=>?_)
  refine wpAny_passesOwn hp (cp (hb _ s6 σ6 H6 _ I6 q6) fun f s7 q7=>?_)
  have again:∀ {σ7:St} {H7:Hp},Inv X (pins ++ il fp s5.heap) σ7 H7 s7->N σ7 H7->∃ m,m < n/\∃ i σ' H',Inv X pins σ' H' s7/\tn i s7.heap/\(∀ b ∈ fp,H' b = none)/\W i m σ' H':=fun {σ7 H7} I7 n7=>by
   obtain ⟨m',hm,w7⟩:=hN σ7 H7 n7;refine ⟨m',hm,i + 1,σ7,H7,I7.unpinned,T.keep _ _ _ NO fun b hb o e=>(I7.pin (b,o) (List.mem_append_right _ (List.mem_append_right _ (gB hb e)))).1,fun b hb=>?_,w7⟩
   obtain ⟨o,e,d⟩:=T.obj _ _ NO b hb;exact (I7.pin (b,o) (List.mem_append_right _ (List.mem_append_right _ (gB hb e)))).2.1
  cases f with
  | next=>obtain ⟨σ7,H7,I7,n7⟩:=q7;exact again I7 n7
  | cont=>obtain ⟨σ7,H7,I7,n7⟩:=q7;exact again I7 n7
  | brk=>obtain ⟨σ7,H7,I7,q7⟩:=q7;exact ⟨σ7,H7,I7.unpinned,q7⟩
  | ret v=>obtain ⟨x7,σ7,H7,I7,r7,q7⟩:=q7;exact ⟨x7,σ7,H7,I7.unpinned,r7,q7⟩
end
theorem B4 (Pv : Nat -> St -> Hp -> Prop) (h0 : Pv 0 σ H) (hl : ∀ i σ H, i <= xs.length -> Pv i σ H -> SqL K H a xs)
    (hs:∀ i x σ H,xs[i]? = some x->Pv i σ H->g x σ H fun σ2 H2=>tb { D with nx:=Pv (i + 1),ct:=Pv (i + 1),bk:=D.nx } σ2 H2) (hd:∀ σ H,Pv xs.length σ H->D.nx σ H) :
    ∃ W:Nat->Nat->St->Hp->Prop,(∃ m,W 0 m σ H)/\∀ i m σ H,W i m σ H ->
     ((EO K a).stop i H/\D.nx σ H) \/ ((EO K a).go i H/\∃ N:St->Hp->Prop,(∀ σ' H',N σ' H'->∃ m',m' < m/\W (i + 1) m' σ' H')/\∀ x H',(EO K a).yld i H x H'->g x σ H' fun σ2 H2=>tb { D with nx:=N,ct:=N,bk:=D.nx } σ2 H2):=by
 refine ⟨fun i m σ H=>m = xs.length - i/\i <= xs.length/\Pv i σ H,⟨xs.length,by simp,Nat.zero_le _,h0⟩,?_⟩
 rintro i m σ H ⟨rfl,hi,p⟩;have q:=hl i σ H hi p
 by_cases eQ:i < xs.length
 ·refine .inr ⟨⟨xs,xs[i],q,by simp [eQ]⟩,Pv (i + 1),fun σ' H' p'=>⟨xs.length - (i + 1),by omega,rfl,eQ,p'⟩,fun x H' y=>?_⟩
  obtain ⟨e,y⟩:=y;subst e;exact hs i x σ _ (y xs q) p
 ·have e:i = xs.length:=by omega
  subst e;exact .inl ⟨⟨xs,q,Nat.le_refl _⟩,hd σ H p⟩
theorem Er (Pv : Nat -> St -> Hp -> Prop) (h0 : Pv 0 σ H) (hl : ∀ i σ H, i <= xs.length -> Pv i σ H -> SqT K H a xs)
    (hs:∀ i x σ H,xs[i]? = some x->Pv i σ H->g x σ H fun σ2 H2=>tb { D with nx:=Pv (i + 1),ct:=Pv (i + 1),bk:=D.nx } σ2 H2) (hd:∀ σ H,Pv xs.length σ H->D.nx σ H) :
    ∃ W:Nat->Nat->St->Hp->Prop,(∃ m,W 0 m σ H)/\∀ i m σ H,W i m σ H ->
     ((EN K a).stop i H/\D.nx σ H) \/ ((EN K a).go i H/\∃ N:St->Hp->Prop,(∀ σ' H',N σ' H'->∃ m',m' < m/\W (i + 1) m' σ' H')/\∀ x H',(EN K a).yld i H x H'->g x σ H' fun σ2 H2=>tb { D with nx:=N,ct:=N,bk:=D.nx } σ2 H2):=by
 refine ⟨fun i m σ H=>m = xs.length - i/\i <= xs.length/\Pv i σ H,⟨xs.length,by simp,Nat.zero_le _,h0⟩,?_⟩
 rintro i m σ H ⟨rfl,hi,p⟩;have q:=hl i σ H hi p
 by_cases eQ:i < xs.length
 ·refine .inr ⟨⟨xs,xs[i],q,by simp [eQ]⟩,Pv (i + 1),fun σ' H' p'=>⟨xs.length - (i + 1),by omega,rfl,eQ,p'⟩,fun x H' y=>?_⟩
  obtain ⟨e,y⟩:=y;subst e;exact hs i x σ _ (y xs q) p
 ·have e:i = xs.length:=by omega
  subst e;exact .inl ⟨⟨xs,q,Nat.le_refl _⟩,hd σ H p⟩
theorem zl {lo : Int} (Pv : Nat -> St -> Hp -> Prop) (h0 : Pv 0 σ H)
    (hs:∀ i σ H,i < n->Pv i σ H->g (.int (lo + i)) σ H fun σ2 H2=>tb { D with nx:=Pv (i + 1),ct:=Pv (i + 1),bk:=D.nx } σ2 H2) (hd:∀ σ H,Pv n σ H->D.nx σ H) :
    ∃ W:Nat->Nat->St->Hp->Prop,(∃ m,W 0 m σ H)/\∀ i m σ H,W i m σ H ->
     ((CC lo n).stop i H/\D.nx σ H) \/ ((CC lo n).go i H/\∃ N:St->Hp->Prop,(∀ σ' H',N σ' H'->∃ m',m' < m/\W (i + 1) m' σ' H')/\∀ x H',(CC lo n).yld i H x H'->g x σ H' fun σ2 H2=>tb { D with nx:=N,ct:=N,bk:=D.nx } σ2 H2):=by
 refine ⟨fun i m σ H=>m = n - i/\i <= n/\Pv i σ H,⟨n,by simp,Nat.zero_le _,h0⟩,?_⟩
 rintro i m σ H ⟨rfl,hi,p⟩
 by_cases eQ:i < n
 ·refine .inr ⟨eQ,Pv (i + 1),fun σ' H' p'=>⟨n - (i + 1),by omega,rfl,eQ,p'⟩,fun x H' y=>?_⟩
  obtain ⟨e,y⟩:=y;subst e y;exact hs i σ _ eQ p
 ·have e:i = n:=by omega
  subst e;exact .inl ⟨Nat.le_refl _,hd σ H p⟩
abbrev R2:=V->V->Hp->VK->Prop
variable {r r':R2}
def OpR (X:Cx) (f:Value->Value->Sem Value) (r:R2):Prop :=
 ∀ (pins:List (Addr × Obj)) (s:Shared) (σ:St) (H:Hp) (x y:V) (v u:Value) (Q:VK),Inv X pins σ H s->RelV x v->RelV y u->r x y H Q ->
  wpAny (model X.prog X.w) X.A (f v u) (EP X pins σ Q) X.xe s
def Nr (X:Cx) (f:Value->Sem Value) (r:V->Hp->VK->Prop):Prop :=
 ∀ (pins:List (Addr × Obj)) (s:Shared) (σ:St) (H:Hp) (x:V) (v:Value) (Q:VK),Inv X pins σ H s->RelV x v->r x H Q ->
  wpAny (model X.prog X.w) X.A (f v) (EP X pins σ Q) X.xe s
def cF (X:Cx) (f:Value) (r:List V->Hp->VK->Prop):Prop :=
 ∀ (pins:List (Addr × Obj)) (s:Shared) (σ:St) (H:Hp) (xs:List V) (us:List Value) (Q:VK),Inv X pins σ H s->Vals xs us->r xs H Q ->
  wpAny (model X.prog X.w) X.A (call f us) (EP X pins σ Q) X.xe s
def yn (r:R2) (ta tb:TE):TE:=fun σ H Q=>ta σ H fun x H1=>tb σ H1 fun y H2=>r x y H2 Q
def NK (r:V->Hp->VK->Prop) (ta:TE):TE:=fun σ H Q=>ta σ H fun x H1=>r x H1 Q
def rI (C:Int->Int->Prop) (g:Int->Int->V):R2:=fun x y H Q=>∃ i j,x = .int i/\y = .int j/\C i j/\Q (g i j) H
def zE (g:Int->Int->V):R2:=fun x y H Q=>∃ i j,x = .int i/\y = .int j/\Q (g i j) H
def rU (g:Int->V):V->Hp->VK->Prop:=fun x H Q=>∃ i,x = .int i/\Q (g i) H
section
variable {a b:Expr} {tb tc:TE}
theorem IT (ha : PE X a ta) (hb : PE X b tb) {R : V -> V -> Hp -> Prop} (I : Inv X pins σ H s)
    (h:ta σ H fun x H1=>tb σ H1 fun y H2=>R x y H2) {Q:Value->Shared->Prop} {f:Value->Value->Sem Value}
    (hf:∀ v u s2 x y H2,Inv X pins σ H2 s2->RelV x v->RelV y u->R x y H2->wpAny (model X.prog X.w) X.A (f v u) Q X.xe s2) :
    wpAny (model X.prog X.w) X.A (eval a X.env) (fun v s₁=>wpAny (model X.prog X.w) X.A (eval b X.env) (fun u s₂=>wpAny (model X.prog X.w) X.A (f v u) Q X.xe s₂) X.xe s₁) X.xe s:=by
 refine cp (ha pins s σ H _ I h) fun v s1 ⟨x,H1,I1,r1,q1⟩=>?_
 refine cp (hb pins s1 σ H1 _ I1 q1) fun u s2 ⟨y,H2,I2,r2,q2⟩=>?_
 exact hf v u s2 x y H2 I2 r1 r2 q2
theorem Kj {op:Operator} (ho:OpR X (binaryOp op) r) (ha:PE X a ta) (hb:PE X b tb):PE X (.BinOp a op b pos) (yn r ta tb):=by
 intro pins s σ H Q I h;exact wpAny_BinOp (IT ha hb I h fun v u s2 x y H2 I2 rx ry q=>ho pins s2 σ H2 x y v u Q I2 rx ry q)
theorem Kg {op:UnaryOp} {r:V->Hp->VK->Prop} (ho:Nr X (unaryOp op) r) (ha:PE X a ta):PE X (.UnaryOp op a pos) (NK r ta):=by
 intro pins s σ H Q I h;exact UnaryOp_ (cp (ha pins s σ H _ I h) fun v s1 ⟨x,H1,I1,r1,q1⟩=>ho pins s1 σ H1 x v Q I1 r1 q1)
theorem Ks {f : Value -> Value -> Sem Value} {C : Int -> Int -> Prop} {g : Int -> Int -> Int}
    (rule:∀ (i j:Int) (t u:Tok) (s:Shared) (Q:Value->Shared->Prop) (E:Value->Shared->Prop),C i j->Q (.int (g i j) s.toks) { s with toks:=s.toks + 1 }->wpAny (model X.prog X.w) X.A (f (.int i t) (.int j u)) Q E s) :
    OpR X f (rI C fun i j=>.int (g i j)):=by
 intro pins s σ H x y v u Q I rx ry h;obtain ⟨i,j,rfl,rfl,hc,q⟩:=h;obtain ⟨t,rfl⟩:=rx;obtain ⟨t',rfl⟩:=ry;exact rule i j t t' s _ _ hc ⟨.int (g i j),H,I.tok _,⟨_,rfl⟩,q⟩
theorem HK {f : Value -> Value -> Sem Value} {g : Int -> Int -> Int}
    (rule:∀ (i j:Int) (t u:Tok) (s:Shared) (Q:Value->Shared->Prop) (E:Value->Shared->Prop),Q (.int (g i j) s.toks) { s with toks:=s.toks + 1 }->wpAny (model X.prog X.w) X.A (f (.int i t) (.int j u)) Q E s) :
    OpR X f (zE fun i j=>.int (g i j)):=by
 intro pins s σ H x y v u Q I rx ry h;obtain ⟨i,j,rfl,rfl,q⟩:=h;obtain ⟨t,rfl⟩:=rx;obtain ⟨t',rfl⟩:=ry;exact rule i j t t' s _ _ ⟨.int (g i j),H,I.tok _,⟨_,rfl⟩,q⟩
theorem HL {f : Value -> Value -> Sem Value} {g : Int -> Int -> Bool}
    (rule:∀ (i j:Int) (t u:Tok) (s:Shared) (Q:Value->Shared->Prop) (E:Value->Shared->Prop),Q (.bool (g i j)) s->wpAny (model X.prog X.w) X.A (f (.int i t) (.int j u)) Q E s) :
    OpR X f (zE fun i j=>.bl (g i j)):=by
 intro pins s σ H x y v u Q I rx ry h;obtain ⟨i,j,rfl,rfl,q⟩:=h;obtain ⟨t,rfl⟩:=rx;obtain ⟨t',rfl⟩:=ry;exact rule i j t t' s _ _ ⟨.bl (g i j),H,I,rfl,q⟩
def MI (i j:Int):Prop:=0 < j/\j < 1073741824
def CMul (i j:Int):Prop:=(-(2 ^ 64) < i/\i < 2 ^ 64) \/ (-(2 ^ 64) < j/\j < 2 ^ 64)
theorem CMul.ok {i j:Int} (h:CMul i j):IntMulOk i j:=by
 rcases h with ⟨h1,h2⟩ | ⟨h1,h2⟩
 ·exact .of_left (intBits_le_64 h1 h2)
 ·exact .of_right (intBits_le_64 h1 h2)
theorem vS (k:Nat):(0:Int) <= 2 ^ k:=by
 rw [two_pow_cast];exact Int.natCast_nonneg _
theorem HJ:OpR X (binaryOp .Add) (zE fun i j=>.int (i + j)):=HK fun _ _ _ _ _ _ _ q=>add_int q
theorem jG:OpR X (binaryOp .Sub) (zE fun i j=>.int (i - j)):=HK fun _ _ _ _ _ _ _ q=>sub_int q
theorem HD:OpR X (binaryOp .Mult) (rI CMul fun i j=>.int (i * j)):=Ks fun _ _ _ _ _ _ _ hc q=>mul_int q hc.ok
theorem aZ:OpR X (binaryOp .FloorDiv) (rI MI fun i j=>.int (i / j)):=Ks fun i j _ _ _ _ _ hc q=>by
 have h1:(0:Int) < j:=hc.1;have h2:j < 1073741824:=hc.2;exact floordiv_int (by omega) (by rw [Int.fdiv_eq_ediv_of_nonneg i (by omega)];exact q) (.inl (PyProof.noPylong_small (by omega)))
theorem aN:OpR X (binaryOp .Mod) (rI (fun _ j=>0 < j) fun i j=>.int (i % j)):=Ks fun i j _ _ _ _ _ hc q=>by
 have h1:(0:Int) < j:=hc;exact mod_int' (by omega) (by rw [Int.fmod_eq_emod_of_nonneg i (by omega)];exact q)
theorem HB:OpR X (binaryOp .RShift) (rI (fun _ j=>0 <= j) fun i j=>.int (i / 2 ^ j.toNat)):=Ks fun i j _ _ _ _ _ hc q =>
 rshift_int hc (by rw [Int.fdiv_eq_ediv_of_nonneg i (vS _)];exact q)
theorem Fm:OpR X (binaryOp .BitOr) (zE fun i j=>.int (Builtin.bitOr i j)):=HK fun _ _ _ _ _ _ _ q=>or_int q
theorem ZQ {f : Value -> Sem Value} {g : Int -> Int}
    (rule:∀ (i:Int) (t:Tok) (s:Shared) (Q:Value->Shared->Prop) (E:Value->Shared->Prop),Q (.int (g i) s.toks) { s with toks:=s.toks + 1 }->wpAny (model X.prog X.w) X.A (f (.int i t)) Q E s) :
    Nr X f (rU fun i=>.int (g i)):=by
 intro pins s σ H x v Q I rx h;obtain ⟨i,rfl,q⟩:=h;obtain ⟨t,rfl⟩:=rx;exact rule i t s _ _ ⟨.int (g i),H,I.tok _,⟨_,rfl⟩,q⟩
theorem vR:Nr X (unaryOp .USub) (rU fun i=>.int (-i)):=ZQ fun _ _ _ _ _ q=>neg_int q
end
section
variable {a b:Expr} {tb tc:TE}
theorem sM {k k':Bool} (I:Inv X pins σ H s) (q:Q (.bl k) H) (e:k = k'):EP X pins σ Q (.bool k') s:=by
 subst e;exact ⟨.bl k,H,I,rfl,q⟩
theorem Kq:OpR X (compareOp .Lt) (zE fun i j=>.bl (decide (i < j))):=HL fun _ _ _ _ _ _ _ q=>lt_int q
theorem Kr:OpR X (compareOp .LtE) (zE fun i j=>.bl (decide (i <= j))):=HL fun _ _ _ _ _ _ _ q=>le_int q
theorem uh:OpR X (compareOp .Gt) (zE fun i j=>.bl (decide (j < i))):=HL fun _ _ _ _ _ _ _ q=>gt_int q
theorem yQ:OpR X (compareOp .Lt) (fun x y H Q=>∃ i j,x = .str i/\y = .str j/\Q (.bl (decide (i.cps.toList < j.cps.toList))) H):=by
 intro pins s σ H x y v u Q I rx ry h;obtain ⟨i,j,rfl,rfl,q⟩:=h;obtain ⟨t,rfl⟩:=rx;obtain ⟨t',rfl⟩:=ry;exact lt_str (sM I q rfl)
theorem qC:OpR X (compareOp .In) (fun x y H Q=>∃ i j,x = .str i/\y = .str j/\Q (.bl (!(Builtin.Str.occurrences j i 0 j.length 1).isEmpty)) H):=by
 intro pins s σ H x y v u Q I rx ry h;obtain ⟨i,j,rfl,rfl,q⟩:=h;obtain ⟨t,rfl⟩:=rx;obtain ⟨t',rfl⟩:=ry;exact in_str (sM I q rfl)
theorem HG:OpR X (compareOp .Is) (fun x y H Q=>y = .non/\Q (.bl (decide (x = .non))) H):=by
 intro pins s σ H x y v u Q I rx ry h;obtain ⟨rfl,q⟩:=h
 cases ry
 refine is_none_gen (sM I q ?_)
 cases x <;> first
  | (cases rx;rfl)
  | (obtain ⟨t,rfl⟩:=rx;rfl)
theorem OpR.or {f:Value->Value->Sem Value} (h:OpR X f r) (h':OpR X f r'):OpR X f (fun x y H Q=>r x y H Q \/ r' x y H Q):=by
 intro pins s σ H x y v u Q I rx ry q
 rcases q with q | q
 ·exact h pins s σ H x y v u Q I rx ry q
 ·exact h' pins s σ H x y v u Q I rx ry q
theorem aw (b:Expr) (h:op ≠ .In:=by decide) (h2:op ≠ .NotIn:=by decide):behindInMarks op b = false:=by
 have e1:(op == CmpOp.In) = false:=by cases op <;> first | rfl | exact absurd rfl h
 have e2:(op == CmpOp.NotIn) = false:=by cases op <;> first | rfl | exact absurd rfl h2
 cases b <;> simp [behindInMarks,e1,e2]
theorem DS (ho:OpR X (compareOp op) r) (ha:PE X a ta) (hb:PE X b tb) (hm:behindInMarks op b = false):PE X (.Compare a [op] [b] pos) (yn r ta tb):=by
 intro pins s σ H Q I h;exact wpAny_Compare1 (IT ha hb I h fun v u s2 x y H2 I2 rx ry q=>ho pins s2 σ H2 x y v u Q I2 rx ry q) hm
def tI (t:TE):TT:=fun σ H Q=>t σ H fun x H'=>∃ k,x = .bl k/\Q k H'
theorem Dz (ho:OpR X (compareOp op) r) (ha:PE X a ta) (hb:PE X b tb) (hm:behindInMarks op b = false):PT X (.Compare a [op] [b] pos) (tI (yn r ta tb)):=by
 intro pins s σ H Q I h;refine wpAny_isTrue_Compare1 (cp (ha pins s σ H _ I h) fun v s1 ⟨x,H1,I1,r1,q1⟩=>cp (hb pins s1 σ H1 _ I1 q1) fun u s2 ⟨y,H2,I2,r2,q2⟩ =>
  cp (ho pins s2 σ H2 x y v u _ I2 r1 r2 q2) fun c s3 ⟨z,H3,I3,r3,k,e,q3⟩=>?_) hm
 subst e
 cases r3
 exact wpAny_truthy_bool ⟨H3,I3,q3⟩
def nH (r r':R2) (ta tb tc:TE):TE:=fun σ H Q=>ta σ H fun x H1=>tb σ H1 fun y H2=>r x y H2 fun z H3=>∃ k,z = .bl k /\
 (if k = true then tc σ H3 fun w' H4=>r' y w' H4 Q else Q (.bl false) H3)
theorem Be {wz : CmpOp} (ho : OpR X (compareOp op) r) (uQ : OpR X (compareOp wz) r') (ha : PE X a ta) (hb : PE X b tb) (hc : PE X c tc)
    (hm:lastMarks [op,wz] [b,c] = false:=by with_unfolding_all rfl):PE X (.Compare a [op,wz] [b,c] pos) (nH r r' ta tb tc):=by
 intro pins s σ H Q I h;refine Compare_chain (cp (ha pins s σ H _ I h) fun v s1 ⟨x,H1,I1,r1,q1⟩=>chain_link (cp (hb pins s1 σ H1 _ I1 q1) fun u s2 ⟨y,H2,I2,r2,q2⟩ =>
  cp (ho pins s2 σ H2 x y v u _ I2 r1 r2 q2) fun d s3 ⟨z,H3,I3,r3,k,e,q3⟩=>?_)) hm
 subst e
 cases r3
 refine wpAny_truthy_bool ?_
 cases k with
 | false=>exact ite_ff ⟨.bl false,H3,I3,rfl,q3⟩
 | true=>exact ite_tt (chain_last (cp (hc pins s3 σ H3 _ I3 q3) fun w' s4 ⟨z',H4,I4,r4,q4⟩=>uQ pins s4 σ H4 y z' u w' Q I4 r2 r4 q4))
theorem A3 {wz : CmpOp} (ho : OpR X (compareOp op) r) (uQ : OpR X (compareOp wz) r') (ha : PE X a ta) (hb : PE X b tb) (hc : PE X c tc)
    (hm:lastMarks [op,wz] [b,c] = false:=by with_unfolding_all rfl):PT X (.Compare a [op,wz] [b,c] pos) (tI (nH r r' ta tb tc)):=by
 intro pins s σ H Q I h;refine isTrue_chain (cp (ha pins s σ H _ I h) fun v s1 ⟨x,H1,I1,r1,q1⟩=>test_link (cp (hb pins s1 σ H1 _ I1 q1) fun u s2 ⟨y,H2,I2,r2,q2⟩ =>
  cp (ho pins s2 σ H2 x y v u _ I2 r1 r2 q2) fun d s3 ⟨z,H3,I3,r3,k,e,q3⟩=>?_)) hm
 subst e
 cases r3
 refine wpAny_truthy_bool ?_
 cases k with
 | false =>
  obtain ⟨k',e',q'⟩:=q3
  cases e'
  exact ite_ff ⟨H3,I3,q'⟩
 | true =>
  refine ite_tt (test_last (cp (hc pins s3 σ H3 _ I3 q3) fun w' s4 ⟨z',H4,I4,r4,q4⟩=>cp (uQ pins s4 σ H4 y z' u w' _ I4 r2 r4 q4) fun d' s5 ⟨z2,H5,I5,r5,k2,e2,q5⟩=>?_))
  subst e2
  cases r5
  exact wpAny_truthy_bool ⟨H5,I5,q5⟩
theorem rY:(sizeLine:Nat) < 2 ^ 63:=by rw [sizeLine_eq];decide
theorem wy:OpR X (binaryOp .Add) (fun x y H Q=>∃ i j,x = .str i/\y = .str j/\i.length + j.length <= sizeLine/\Q (.str (i ++ j)) H):=by
 intro pins s σ H x y v u Q I rx ry h;obtain ⟨i,j,rfl,rfl,hz,q⟩:=h;obtain ⟨t,rfl⟩:=rx;obtain ⟨t',rfl⟩:=ry;exact add_str (fun t' tk=>⟨.str (i ++ j),H,I.tok _,⟨_,rfl⟩,q⟩) hz
theorem vals1 {x:V} (r:Vals [x] us):∃ u,us = [u]/\RelV x u:=by
 cases r with
 | cons r1 r2=>cases r2;exact ⟨_,rfl,r1⟩
theorem vals2 {x y:V} (r:Vals [x,y] us):∃ u w',us = [u,w']/\RelV x u/\RelV y w':=by
 cases r with
 | cons r1 r2 =>
  cases r2 with
  | cons r3 r4=>cases r4;exact ⟨_,_,rfl,r1,r3⟩
theorem zw (hc:X.calm = true):cF X (.builtin "max") (fun xs H Q=>∃ i j,xs = [.int i,.int j]/\Q (.int (if j > i then j else i)) H):=by
 intro pins s σ H xs us Q I r h;obtain ⟨i,j,rfl,q⟩:=h;obtain ⟨u,w',rfl,⟨t,rfl⟩,⟨t',rfl⟩⟩:=vals2 r;refine max_two_ints (I.ok.hd hc) fun h' tk k=>⟨_,H,I.kept k,?_,q⟩
 by_cases hj:j > i
 ·rw [if_pos hj,if_pos hj];exact ⟨_,rfl⟩
 ·rw [if_neg hj,if_neg hj];exact ⟨_,rfl⟩
theorem sO:cF X (.type "str") (fun xs H Q=>∃ i,xs = [.int i]/\i.natAbs.log2 < 1920/\Q (.str (toString i)) H):=by
 intro pins s σ H xs us Q I r h;obtain ⟨i,rfl,hz,q⟩:=h;obtain ⟨u,rfl,t,rfl⟩:=vals1 r;exact PySem.P.str_of_int hz ⟨.str _,H,I.tok _,⟨_,rfl⟩,q⟩
theorem kC:cF X (.builtin "ord") (fun xs H Q=>∃ x,xs = [.str x]/\x.length = 1/\Q (.int (x.cps.getD 0 0:Nat)) H):=by
 intro pins s σ H xs us Q I r h;obtain ⟨x,rfl,hz,q⟩:=h;obtain ⟨u,rfl,t,rfl⟩:=vals1 r;exact ord_of_one hz ⟨.int _,H,I.tok _,⟨_,rfl⟩,q⟩
def MF (K:W.Frag) (x:V) (H:Hp) (n:Nat):Prop :=
 match x with
 | .str y=>y.length <= sizeLine/\n = y.length
 | .byt y=>y.size <= sizeLine/\n = y.size
 | .ref p=>(∃ xs,SqL K H p xs/\n = xs.length) \/ ∃ xs,SqT K H p xs/\n = xs.length
 | _=>False
theorem Cm:cF X (.builtin "len") (fun xs H Q=>∃ x n,xs = [x]/\MF X.K x H n/\Q (.int n) H):=by
 intro pins s σ H xs us Q I r h;obtain ⟨x,n,rfl,e,q⟩:=h;obtain ⟨u,rfl,rx⟩:=vals1 r;have hl:=rY;have hs:sizeLine = 16777216:=sizeLine_eq
 cases x with
 | str y =>
  obtain ⟨t,rfl⟩:=rx;obtain ⟨hy,e'⟩:y.length <= sizeLine/\n = y.length:=e;subst e';exact len_str (by omega) ⟨.int _,H,I.tok _,⟨_,rfl⟩,q⟩
 | byt y =>
  obtain ⟨t,rfl⟩:=rx;obtain ⟨hy,e'⟩:y.size <= sizeLine/\n = y.size:=e;subst e';exact W.len_bytes (by omega) ⟨.int _,H,I.tok _,⟨_,rfl⟩,q⟩
 | ref p =>
  cases rx
  have e':(∃ xs,SqL X.K H p xs/\n = xs.length) \/ ∃ xs,SqT X.K H p xs/\n = xs.length:=e
  rcases e' with ⟨xs,hx,e'⟩ | ⟨xs,hx,e'⟩
  ·subst e';obtain ⟨its,r',pl,hz⟩:=I.list hx;have hlen:=r'.length;exact Calls.call_len_list pl.isList (by simp only [List.size_toArray];omega) ⟨.int xs.length,H,I.tok _,⟨_,by simp only [List.size_toArray];rw [hlen]⟩,q⟩
  ·subst e';obtain ⟨its,r',pl,hz⟩:=I.tuple hx;have hlen:=r'.length;exact len_tuple pl (by simp only [List.size_toArray];omega) ⟨.int xs.length,H,I.tok _,⟨_,by simp only [List.size_toArray];rw [hlen]⟩,q⟩
 | _=>exact (show False from e).elim
end
structure ObjM (h:Heap) (x dx C:Addr) (mA:Str->Option Value):Prop where
 obj:h.get? x = some (W.instObj C dx)
 ns:h.Ns1 dx mA
 ne:dx ≠ x
theorem y0 {mA:Str->Option Value} (n:h.Ns1 dx mA):∃ od,h.get? dx = some od/\∀ name,W.lookIn name od = some (mA name):=by
 obtain ⟨o,es,ep,ho,hd,hk,_,hm⟩:=n;refine ⟨o,ho,fun name=>?_⟩
 have e:=hm name;unfold nsFind findBy at e;rw [<- Array.find?_toList] at e;unfold W.lookIn;rw [hd];dsimp only
 split
 ·rename_i y q;rw [q] at e;exact congrArg some e
 ·rename_i q;rw [q] at e;have a:es.toList.any (·.refKey) = false:=by
   rw [List.any_eq_false];intro y hy;obtain ⟨z,t,p7⟩:=hk y (Array.mem_toList_iff.mp hy);simp [DictEntry.refKey,p7]
  have a':¬ es.toList.any (·.refKey) = true:=by rw [a];exact Bool.false_ne_true
  rw [if_neg a'];exact congrArg some e
theorem ObjM.look {x:Addr} {mA:Str->Option Value} (I:ObjM h x dx C mA):∃ od,W.InstAt h x (W.instObj C dx) C (some od)/\∀ name,W.lookIn name od = some (mA name) :=
 let ⟨od,ho,hl⟩:=y0 I.ns
 ⟨od,⟨I.obj,rfl,rfl,ho⟩,hl⟩
theorem RelO.some_of {o:Option Value} (r:RelO (some v) o):∃ u,o = some u/\RelV v u:=by
 cases o with
 | none=>exact (show False from r).elim
 | some u=>exact ⟨u,rfl,r⟩
section
variable {fs TQ:List (Str × V)}
theorem Ei (hok:HOk P w H h) (e:H a = some (.ins C dx fs)):∃ mA,ObjM h a dx C mA/\(∀ f,RelO (fs.lookup f) (mA f))/\PySem.Within mA (fs.map (·.1))/\fs.length <= 1000/\H dx = some (.own a):=by
 obtain ⟨d,z,ne,ob,mA,n,r,q⟩:=(show ObjOk P w H h a (.ins C dx fs) from hok a _ e);exact ⟨mA,⟨ob,n,ne⟩,r,q,z,d⟩
end
structure Cls (K:W.Frag) (C:Addr):Prop where
 pg:W.plainGet K C Str.empty = true
 hd:W.hasDictIn K C = true
 po:W.plainOver K C = true
 sa:W.findIn K (.ref C) "__setattr__" = some (some (.builtin "object.__setattr__"))
theorem Cls.get (c:Cls K C) (f:Str):W.plainGet K C f = true:=c.pg
section
variable {E:Value->Shared->Prop} {Q:Value->Shared->Prop} {c:Value} {b:Bool}
inductive TyOf (K:W.Frag) (H:Hp):V->Value->Prop where
 | non:TyOf K H .non (.type "NoneType")
 | bl (x:Bool):TyOf K H (.bl x) (.type "bool")
 | int (i:Int):TyOf K H (.int i) (.type "int")
 | str (x:Str):TyOf K H (.str x) (.type "str")
 | flt (x:UInt64):TyOf K H (.flt x) (.type "float")
 | lst {a:Addr} {xs:List V} (e:H a = some (.lst xs)):TyOf K H (.ref a) (.type "list")
 | frz {a:Addr} {o:Obj} {xs:List V} (e:H a = some (.frz o (.lst xs))):TyOf K H (.ref a) (.type "list")
 | tup {a:Addr} {xs:List V} (e:H a = some (.tup xs)):TyOf K H (.ref a) (.type "tuple")
 | dK {a:Addr} {az:List (Key × V)} (e:H a = some (.dK az)):TyOf K H (.ref a) (.type "dict")
 | dT {a:Addr} {az:List (List Key × V)} (e:H a = some (.dT az)):TyOf K H (.ref a) (.type "dict")
 | ins {a C dx : Addr} {fs : List (Str × V)} (e : H a = some (.ins C dx fs)) (cl : Cls K C) (ha : W.findIn K (.ref C) "__class__" = some (some (.builtin "object.__class__")))
     (hn:W.specialIn K (.builtin "object.__class__") "__get__" = some (some (.builtin "getset_descriptor.__get__"))) (M4:W.takesIn K (.builtin "object.__class__") = some true)
     (hm:W.mroIn K C (.type "object") = some true):TyOf K H (.ref a) (.ref C)
theorem zb {x : V} {t : Value} (I : Inv X pins σ H s) (rx : RelV x u) (ty : TyOf X.K H x t) (e : W.kitOne X.K t c = some b) (h : ∀ tk, Q (.bool b) { s with toks := tk }) :
    wpAny (model X.prog X.w) A (call (.builtin "isinstance") [u,c]) Q E s:=by
 cases ty with
 | non=>cases (show u = Value.none from rx);exact W.kia_one W.kitx_none I.kIn True.intro e (fun z=>nomatch z) h
 | bl y=>cases (show u = Value.bool y from rx);exact W.kia_one W.kitx_bool I.kIn True.intro e (fun z=>nomatch z) h
 | int i=>obtain ⟨t,q⟩:=(show ∃ t,u = Value.int i t from rx);cases q;exact W.kia_one W.kitx_int I.kIn True.intro e (fun z=>nomatch z) h
 | str y=>obtain ⟨t,q⟩:=(show ∃ t,u = Value.str y t from rx);cases q;exact W.kia_one W.kitx_str I.kIn True.intro e (fun z=>nomatch z) h
 | flt y=>obtain ⟨t,q⟩:=(show ∃ t,u = Value.float y t from rx);cases q;exact W.kia_one W.kitx_float I.kIn True.intro e (fun z=>nomatch z) h
 | @lst a xs ea =>
  cases (show u = Value.ref a from rx)
  obtain ⟨_,_,n,_,h1⟩:=(show ObjOk X.prog X.w H s.heap a (.lst xs) from I.hok a _ ea);exact W.kia_one W.kitx_list I.kIn ⟨_,h1,rfl⟩ e (fun z=>nomatch z) h
 | @frz a ob xs ea =>
  cases (show u = Value.ref a from rx)
  obtain ⟨_,_,_,n,_,h1⟩:=(show ObjOk X.prog X.w H s.heap a (.frz ob (.lst xs)) from I.hok a _ ea);exact W.kia_one W.kitx_list I.kIn ⟨_,h1,rfl⟩ e (fun z=>nomatch z) h
 | @tup a xs ea =>
  cases (show u = Value.ref a from rx)
  obtain ⟨_,_,_,p⟩:=(show ObjOk X.prog X.w H s.heap a (.tup xs) from I.hok a _ ea);obtain ⟨o,h1,h2,_⟩:=p;exact W.kia_one W.kitx_tuple I.kIn ⟨o,h1,h2⟩ e (fun z=>nomatch z) h
 | @dK a az ea =>
  cases (show u = Value.ref a from rx)
  obtain ⟨_,_,vs,_,p⟩:=(show ObjOk X.prog X.w H s.heap a (.dK az) from I.hok a _ ea);obtain ⟨o,es,ep,h1,h2,_⟩:=p;exact W.kia_one W.kitx_dict I.kIn ⟨o,h1,h2.1⟩ e (fun z=>nomatch z) h
 | @dT a az ea =>
  cases (show u = Value.ref a from rx)
  obtain ⟨_,_,xs,_,o,es,ep,h1,h2,_⟩:=(show ObjOk X.prog X.w H s.heap a (.dT az) from I.hok a _ ea);exact W.kia_one W.kitx_dict I.kIn ⟨o,h1,h2.1⟩ e (fun z=>nomatch z) h
 | @ins a C dx fs ea cl ha hn M4 hm =>
  cases (show u = Value.ref a from rx)
  obtain ⟨mA,O,_⟩:=Ei I.hok ea;obtain ⟨od,J,_⟩:=O.look;exact W.kia_one (W.kitx_own (cl.get _) cl.hd ha hn M4 hm) I.kIn J e (fun z=>nomatch z) h
end
structure Room (k:Nat) (A:Around):Prop where
 hd:A.handled = none
 dp:A.depth + 3 * k + 5 < recursionLimit
 un:A.units + 16 * k + 200 < cLine
theorem Room.mono (r:Room k A) (h:j <= k):Room j A:=⟨r.hd,by have:=r.dp;omega,by have:=r.un;omega⟩
theorem Room.deeper (r:Room (k + 1) A) (env:Env):Room k (A.deeper env) :=
 ⟨r.hd,by have:=r.dp;show A.depth + 1 + 3 * k + 5 < _;omega,by have:=r.un;show A.units + 3 + 16 * k + 200 < _;omega⟩
theorem Room.in1 (r:Room (k + 1) A):Room k A.in1 :=
 ⟨r.hd,by have:=r.dp;show A.depth + 3 * k + 5 < _;omega,by have:=r.un;show A.units + 1 + 16 * k + 200 < _;omega⟩
theorem Room.depth (r:Room k A):A.depth < recursionLimit:=by have:=r.dp;omega
theorem Room.units (r:Room k A):A.units + 64 < cLine:=by have:=r.un;omega
def CW:TA:=fun _ H Q=>Q [] H
def tK (ta:TE) (tr:TA):TA:=fun σ H Q=>ta σ H fun x H1=>tr σ H1 fun xs H2=>Q (x :: xs) H2
section
theorem HA:PA X [] CW:=fun _ _ _ _ H Q I h=>Calls.spliced_nil ⟨[],H,I,.nil,h⟩
theorem DY (ha:PE X e te) (hr:PA X es t) (hs:starEach (e :: es) X.env = (false,eval e X.env) :: starEach es X.env:=by rfl):PA X (e :: es) (tK te t):=by
 intro pos pins s σ H Q I h;rw [hs];show wpAny _ _ (spliced ((false,eval e X.env) :: backTo pos (starEach es X.env))) _ _ s;refine Calls.spliced_cons (cp (ha pins s σ H _ I h) fun u s1 ⟨x,H1,I1,r1,q1⟩=>?_)
 exact cp (hr pos pins s1 σ H1 _ I1 q1) fun us s2 ⟨xs,H2,I2,r2,q2⟩=>⟨x :: xs,H2,I2,.cons r1 r2,q2⟩
end
abbrev Sp:=List V->Hp->VK->XK->Prop
variable {sp:Sp}
abbrev CQ:=List Env->Hp->Shared->XK->Value->Shared->Prop
variable {CX:CQ}
structure qi (P:Program) (w:World) (K:W.Frag) (mg:Str->Option Value) (base:Heap) (A:Around) (outer:List Env) (s:Shared) (H:Hp):Prop where
 frames:A.frames = some outer
 mod:Mod K mg base
 bs:∀ b o,base.get? b = some o->s.heap.get? b = some o/\H b = none
 bsz:base.objs.size <= s.heap.objs.size
 funs:s.heap.FunFrames base outer
 frf:∀ b ∈ ti outer,H b = none
 hok:HOk P w H s.heap
 bare:AllBare s.gens
def CE (outer:List Env) (P:Program) (w:World) (H:Hp) (s:Shared) (Q:VK) (u:Value) (s':Shared):Prop :=
 ∃ v H',s'.os = s.os/\AllBare s'.gens/\Un (ti outer) [] H H' s.heap s'.heap/\HOk P w H' s'.heap/\RelV v u/\Q v H'
def CR (CX:CQ) (outer:List Env) (P:Program) (w:World) (H:Hp) (s:Shared) (Q:VK) (E:XK) (r:Result) (s':Shared):Prop :=
 match r with
 | .ok (.ret u)=>CE outer P w H s Q u s'
 | .ok _=>False
 | .error e=>CX outer H s E e s'
structure FnOk (P:Program) (w:World) (K:W.Frag) (mg:Str->Option Value) (base:Heap) (CX:CQ) (k:Nat) (f:Addr) (fd:FuncData) (ps:List Str) (sp:Sp):Prop where
 len:∀ vs H Q E,sp vs H Q E->vs.length = ps.length
 run:∀ (A:Around) (outer:List Env) (s:Shared) (H:Hp) (args:Args) (us:List Value) (vs:List V) (Q:VK) (E:XK),Room k A->qi P w K mg base A outer s H->BindsTo s fd args (ps.zip us)->Vals vs us->sp vs H Q E ->
  codeAny (model P w) A (.call (.ref f) args) (CR CX outer P w H s Q E) s
theorem FnOk.mono (F : FnOk P w K mg base CX j f fd ps sp) (h : j <= k) :
    FnOk P w K mg base CX k f fd ps sp:=⟨F.len,fun A outer s H args us vs Q E hr=>F.run A outer s H args us vs Q E (hr.mono h)⟩
section
theorem Inv.env0 (I:Inv X pins σ H s):qi X.prog X.w X.K X.mg X.base X.A X.stack s H :=
 ⟨I.ok.frames,I.ok.mod,I.bs,Nat.le_trans I.ok.bsz I.sz,I.stack,I.stkFree,I.hok,I.bare⟩
theorem Inv.after (I:Inv X pins σ H s) (h:CE X.stack X.prog X.w H s Q u s'):EP X pins σ Q u s':=by
 obtain ⟨v,H',os,bare,un,hok,r,q⟩:=h;obtain ⟨hh,g,d,t,PJ⟩:=s';obtain rfl:PJ = s.os:=os;exact ⟨v,H',I.call (h':=hh) (g':=g) (d':=d) (t':=t) (ch:=[]) un hok bare (fun b z=>absurd z (by simp)),r,q⟩
end
def nI (sp:Sp) (FI:List V) (E:XK) (t:TA):TE:=fun σ H Q=>t σ H fun vs H1=>sp (vs ++ FI) H1 Q E
def Binds (K:W.Frag) (fd:FuncData) (ps:List Str) (ds:List Value):Prop :=
 ∀ (s:Shared) (us:List Value),K.In s.heap->(us ++ ds).length = ps.length->BindsTo s fd ⟨us,[]⟩ (ps.zip (us ++ ds))
theorem Binds.all (h:∀ us:List Value,us.length = ps.length->bindArgs fd ⟨us,[]⟩ = pure (ps.zip us)):Binds K fd ps []:=fun s us _ hl=>by
 rw [List.append_nil] at hl ⊢;exact .of_eq (h us hl)
def Passes (CX:CQ) (X:Cx) (E:XK):Prop:=∀ (pins:List (Addr × Obj)) (σ:St) (H:Hp) (s:Shared) (e:Value) (s':Shared),Inv X pins σ H s->CX X.stack H s E e s'->X.xe e s'
section
variable {FI:List V} {ds:List Value} {m:Str} {apos:Pos} {o:Expr}
theorem Gw {vs : List V} (F : FnOk X.prog X.w X.K X.mg X.base CX k f fd ps sp) (hr : Room k X.A) (hb : Binds X.K fd ps ds) (hd : Vals FI ds) (hx : Passes CX X E)
    (I:Inv X pins σ H s) (r:Vals vs us) (h:sp (vs ++ FI) H Q E):wpAny (model X.prog X.w) X.A (call (.ref f) us) (EP X pins σ Q) X.xe s:=by
 have r2:Vals (vs ++ FI) (us ++ ds):=r.append hd;have hl:(us ++ ds).length = ps.length:=by rw [<- r2.length];exact F.len _ _ _ _ h
 refine wpAny_call (codeAny_mono (F.run X.A X.stack s H ⟨us,[]⟩ (us ++ ds) (vs ++ FI) Q E hr I.env0 (hb s us I.kIn hl) r2 h) fun r s' hq=>?_)
 cases r with
 | error e=>exact hx pins σ H s e s' I hq
 | ok fl =>
  cases fl with
  | ret u=>exact I.after hq
  | next=>exact False.elim hq
  | brk=>exact False.elim hq
  | cont=>exact False.elim hq
theorem DT (F : FnOk X.prog X.w X.K X.mg X.base CX k f fd ps sp) (hr : Room k X.A) (hg : Gl X x) (hm : X.mg x = some (.ref f)) (hk : W.keepIn X.K (.ref f) = true) (hb : Binds X.K fd ps ds) (hd : Vals FI ds) (hx : Passes CX X E)
    (ha:PA X (e :: es) t) (sJ:(x == ("__debug__":Str)) = false:=by decide) (he:starEach (e :: es) X.env = (false,eval e X.env) :: starEach es X.env:=by rfl) (sE:(backTo pos (starEach es X.env)).any (·.1) = false:=by rfl) :
    PE X (.Call (.Name x p) (e :: es) [] pos) (nI sp FI E t):=by
 intro pins s σ H Q I h;refine wpAny_Call_Name_kw (xO I hg hm ?_ sJ);refine W.callWith_K (h₀:=X.base) I.ok.mod.kin hk (cp (ha pos pins s σ H _ I h) fun us s1 ⟨vs,H1,I1,r,q⟩=>⟨I1.kIn,?_⟩) he sE
 exact Gw F hr hb hd hx I1 r q
end
def PK (X:Cx) (KG:List Keyword) (t:TA):Prop :=
 ∀ (pos:Pos) (pins:List (Addr × Obj)) (s:Shared) (σ:St) (H:Hp) (Q:List V->Hp->Prop),Inv X pins σ H s->t σ H Q->wpAny (model X.prog X.w) X.A (evalAll ((backToKw pos (keywordEach KG X.env)).map (·.2))) (AP X pins σ Q) X.xe s
section
variable {ks:List Str} {m:Str} {apos kpos:Pos} {o:Expr} {KG:List Keyword} {tk:TA} {nm:Option Str}
theorem Hh:PK X [] CW:=fun _ _ _ _ H Q I h=>wpAny_evalAll_nil ⟨[],H,I,.nil,h⟩
theorem DH (ha:PE X e te) (hr:PK X KG t):PK X (⟨nm,e,kpos⟩ :: KG) (tK te t):=by
 intro pos pins s σ H Q I h;show wpAny _ _ (evalAll ((do let v <- eval e X.env;standAt pos;pure v) :: (backToKw pos (keywordEach KG X.env)).map (·.2))) _ _ s;refine wpAny_evalAll_cons (wpAny_bind (cp (ha pins s σ H _ I h) fun u s1 ⟨x,H1,I1,r1,q1⟩=>wpAny_bind (wpAny_standAt (wpAny_pure ?_))))
 exact cp (hr pos pins s1 σ H1 _ I1 q1) fun us s2 ⟨xs,H2,I2,r2,q2⟩=>⟨x :: xs,H2,I2,.cons r1 r2,q2⟩
variable {g:List Value->List Value->List Value} {gV:List V->List V->List V}
end
structure ao (N P:List Str) (sc:Scope):Prop where
 kind:sc.kind = .function
 co:sc.isCoroutine = false
 gen:sc.isGenerator = false
 nd:N.Nodup
 pre:N.take P.length = P
 par:∀ x ∈ P,sc.names.lookup x = some .local \/ sc.names.lookup x = some .cell
 nofree:∀ y ∈ sc.names,y.2 ≠ .free
theorem qX {kindOf:Str->Option NameKind} {x:Str}:∀ {binds:List (Str × Value)} {m:Str->Option Value},(∀ v,(x,v) ∉ binds)->bindL kindOf binds m x = m x
 | [],_,_=>rfl
 | (n,v) :: r,m,h=>by
  unfold bindL;rw [qX fun w hw=>h w (List.mem_cons_of_mem _ hw)]
  split
  ·have:x ≠ n:=by rintro rfl;exact h v List.mem_cons_self
   simp [this]
  ·rfl
theorem qZ {kindOf:Str->Option NameKind} {x:Str}:∀ {binds:List (Str × Value)} {m:Str->Option Value},(∀ v,(x,v) ∉ binds)->bindC kindOf binds m x = m x
 | [],_,_=>rfl
 | (n,v) :: r,m,h=>by
  unfold bindC;rw [qZ fun w hw=>h w (List.mem_cons_of_mem _ hw)]
  split
  ·rfl
  ·have:x ≠ n:=by rintro rfl;exact h v List.mem_cons_self
   simp [this]
theorem qY {v : Value} : ∀ {P : List Str} {vs : List Value} {i : Nat} {m : Str -> Option Value}, P.Nodup -> P[i]? = some x -> vs[i]? = some v -> kindOf x = some .local ->
    bindL kindOf (P.zip vs) m x = some v
 | [],_,_,_,_,h,_,_=>by simp at h
 | _ :: _,[],_,_,_,_,h,_=>by simp at h
 | p :: P,w :: vs,0,m,nd,h1,h2,hk=>by
  simp at h1 h2;subst h1;subst h2;show bindL kindOf ((p,w) :: P.zip vs) m p = _;unfold bindL;rw [qX fun v hv=>(List.nodup_cons.mp nd).1 (List.of_mem_zip hv).1,if_pos hk];simp
 | p :: P,w :: vs,i + 1,m,nd,h1,h2,hk=>by
  show bindL kindOf ((p,w) :: P.zip vs) m x = _;unfold bindL;exact qY (i:=i) (List.nodup_cons.mp nd).2 (by simpa using h1) (by simpa using h2) hk
theorem rg {v : Value} : ∀ {P : List Str} {vs : List Value} {i : Nat} {m : Str -> Option Value}, P.Nodup -> P[i]? = some x -> vs[i]? = some v -> kindOf x ≠ some .local ->
    bindC kindOf (P.zip vs) m x = some v
 | [],_,_,_,_,h,_,_=>by simp at h
 | _ :: _,[],_,_,_,_,h,_=>by simp at h
 | p :: P,w :: vs,0,m,nd,h1,h2,hk=>by
  simp at h1 h2;subst h1;subst h2;show bindC kindOf ((p,w) :: P.zip vs) m p = _;unfold bindC;rw [qZ fun v hv=>(List.nodup_cons.mp nd).1 (List.of_mem_zip hv).1,if_neg hk];simp
 | p :: P,w :: vs,i + 1,m,nd,h1,h2,hk=>by
  show bindC kindOf ((p,w) :: P.zip vs) m x = _;unfold bindC;exact rg (i:=i) (List.nodup_cons.mp nd).2 (by simpa using h1) (by simpa using h2) hk
def start (N:List Str) (vs:List V):St:=vs.map some ++ List.replicate (N.length - vs.length) none
def gh (CX:CQ) (P:Program) (w:World) (K:W.Frag) (mg:Str->Option Value) (base:Heap) (N:List Str) (qual:Str) (scope:Scope) (f:Addr) (cd:Value) (A:Around) (outer:List Env) (s:Shared) (H:Hp) (E:XK):Cx where
 prog:=P
 w:=w
 K:=K
 mg:=mg
 base:=base
 A:=A.deeper (envOfC qual scope s.heap.objs.size f cd)
 N:=N
 s₀:=s
 H₀:=H
 env:=envOfC qual scope s.heap.objs.size f cd
 outer:=outer
 stack:=envOfC qual scope s.heap.objs.size f cd :: outer
 ex:=[]
 calm:=true
 fn:=fun _=>true
 pn:=[]
 xe:=fun e s'=>wpAny (model P w) (A.deeper (envOfC qual scope s.heap.objs.size f cd)) (leaving (envOfC qual scope s.heap.objs.size f cd) e) (fun _ OI=>CX outer H s E e OI) (fun e' OI=>CX outer H s E e' OI) s'
theorem oW {sc:Scope} (h:sc.names.lookup x = some .cell):∃ c,(cellsFrom n sc.names []).lookup x = some c:=by
 have q:=W.cellsFrom_some sc.names n [] (.inl h);exact Option.isSome_iff_exists.mp q
theorem lL {N : List Str} {qual : Str} {scope : Scope} {cd : Value} {outer : List Env} {s1 : Shared} {vs : List V}
    (S:ao N ps scope) (hd:A.handled = none) (e0:qi P w K mg base A outer s H) (hl:vs.length = ps.length) (r:Vals vs us)
    (x:InCallC s s.heap.objs.size (bindL (envOfC qual scope s.heap.objs.size f cd).kindOf (ps.zip us) fun _=>none) (cellsFrom (s.heap.objs.size + 1) scope.names []) (bindC (envOfC qual scope s.heap.objs.size f cd).kindOf (ps.zip us) fun _=>none) s1) :
    Inv (gh CX P w K mg base N qual scope f cd A outer s H E) [] (start N vs) H s1:=by
 have sE:ps.length <= N.length:=by have:=congrArg List.length S.pre;rw [List.length_take] at this;omega
 obtain ⟨h1,tk,rfl,hk⟩:=x.done;have Rr:∀ b:Addr,b ∉ (gh CX P w K mg base N qual scope f cd A outer s H E).ex:=fun b z=>absurd (show b ∈ ([]:List Addr) from z) (by simp)
 refine ⟨⟨e0.mod,S.kind,rfl,rfl,Nat.le_refl _,fun y z c h1 h2=>?_,fun y hy=>?_,fun y c _ h=>?_,fun _=>hd,Around.frames_deeper e0.frames,.inr ⟨rfl,rfl⟩,fun b z=>absurd z (Rr b),e0.bs,e0.bsz,fun b _ _=>Rr b,fun b z=>absurd z (Rr b),e0.funs,e0.frf⟩,
  rfl,e0.bare,Un.kept hk,⟨_,x.toInCall.ns,fun i y v h1 h2 h3=>?_⟩,fun y c h=>⟨_,x.cell y c h⟩,e0.hok.fresh (Nat.le_refl _),fun y c h=>?_,fun p hp=>absurd (show p ∈ ([]:List (Addr × Obj)) from hp) (by simp),e0.hok.kept hk,?_⟩
 ·exact name_of_addr x.apart (PySem.mem_of_lookup h1) (PySem.mem_of_lookup h2)
 ·have hy:scope.names.lookup y = some .cell \/ scope.names.lookup y = some .free:=hy
  rcases hy with hy | hy
  ·exact oW hy
  ·exact absurd rfl (S.nofree _ (PySem.mem_of_lookup hy))
 ·exact Nat.le_of_lt (x.above y c (PySem.mem_of_lookup h))
 ·have hi:i < vs.length:=by
   unfold start at h2
   by_cases hi:i < vs.length
   ·exact hi
   ·rw [List.getElem?_append_right (by simpa using hi)] at h2;rw [List.getElem?_replicate] at h2
    split at h2 <;> cases h2
  have ha:vs[i]? = some v:=by
   unfold start at h2;rw [List.getElem?_append_left (by simpa using hi),List.getElem?_map] at h2
   cases e:vs[i]? with
   | none=>rw [e] at h2;cases h2
   | some a=>rw [e] at h2;cases h2;rfl
  obtain ⟨u,hu,rv⟩:=r.get ha;have hp:ps[i]? = some y:=by
   rw [<- S.pre,List.getElem?_take_of_lt (by omega)];exact h1
  have MZ:ps.Nodup:=by rw [<- S.pre];exact S.nd.sublist (List.take_sublist _ _)
  refine ⟨u,rv,?_⟩
  rcases S.par y (List.mem_of_getElem? hp) with k | k
  ·exact .inl ⟨k,qY MZ hp hu k⟩
  ·obtain ⟨c,e⟩:=oW (n:=s.heap.objs.size + 1) k;refine .inr ⟨.inl k,c,e,?_⟩;have q:=x.cell y c e;rw [rg MZ hp hu (by show scope.names.lookup y ≠ _;rw [k];decide)] at q;exact q
 ·exact e0.hok.fresh (Nat.le_of_lt (x.above y c (PySem.mem_of_lookup h)))
 ·unfold start;show _ = N.length;rw [List.length_append,List.length_map,List.length_replicate];omega
theorem FG {name qual : Str} {params : Arguments} {body : List Stmt} {scope : Scope} {dV kV doc pm bA ct oc : Value} {an od : Option Addr}
    {CK:Array (Option Value)} {N ps:List Str} {sp:Sp} (lk:K.lookup f = some ⟨oc,od,.func (W.fnOf name qual params body scope dV kV doc pm an bA ct),CK⟩) (jN:W.codeIn K bA qual = true) (S:ao N ps scope)
    (len:∀ vs H Q E,sp vs H Q E->vs.length = ps.length)
    (fe:∀ (A:Around) (outer:List Env) (s:Shared) (H:Hp) (vs:List V) (Q:VK) (E:XK),Room k (A.deeper (envOfC qual scope s.heap.objs.size f bA))->sp vs H Q E ->
     ∃ t,PSs (gh CX P w K mg base N qual scope f bA A outer s H E) body t/\t { nx:=fun _ H'=>Q .non H',rt:=Q } (start N vs) H) :
    FnOk P w K mg base CX (k + 1) f (W.fnOf name qual params body scope dV kV doc pm an bA ct) ps sp:=by
 refine ⟨len,fun A outer s H args us vs Q E hr e0 hb r zF=>?_⟩;have hl:=len _ _ _ _ zF;have KX:K.In s.heap:=e0.mod.kin.keeps fun b o e=>(e0.bs b o e).1
 have lim:s.heap.NoLimit:=e0.mod.nolimit.keeps fun b o e=>(e0.bs b o e).1
 have uS:∀ y ∈ ps.zip us,scope.names.lookup y.1 = some .local \/ (scope.names.lookup y.1 = some .cell/\((cellsFrom (s.heap.objs.size + 1) scope.names []).lookup y.1).isSome = true):=fun ⟨n,v⟩ hy=>by
  rcases S.par n (List.of_mem_zip hy).1 with q | q
  ·exact .inl q
  ·exact .inr ⟨q,W.cellsFrom_some _ _ _ (.inl q)⟩
 refine codeAny_call_function hr.depth (KX _ _ lk) rfl S.co S.gen rfl (W.codeRec_of KX jN) (hb _ _ _ _ ?_);refine wpAny_newFunctionEnv_cells S.kind uS fun env he s1 x=>?_
 subst he;refine ⟨lim.keeps x.toInCall.keep,codeAny_func ?_⟩;obtain ⟨t,ht,hq⟩:=fe A outer s H vs Q E (hr.deeper _) zF;have I:Inv (gh CX P w K mg base N qual scope f bA A outer s H E) [] (start N vs) H s1:=lL S hr.hd e0 hl r x;refine wpAny_mono (ht [] s1 (start N vs) H _ I hq) (fun fl s' hs=>?_) fun e s' hs=>hs
 have fin:∀ {σ':St} {H':Hp} {v:V} {u:Value},Inv (gh CX P w K mg base N qual scope f bA A outer s H E) [] σ' H' s'->RelV v u->Q v H'->CE outer P w H s Q u s' :=
  fun {σ' H' v u} J rv q=>⟨v,H',J.os,J.bare,J.base,J.hok,rv,q⟩
 cases fl with
 | ret u =>
  obtain ⟨v,σ',H',J,rv,q⟩:=hs;exact fin J rv q
 | next =>
  obtain ⟨σ',H',J,q⟩:=hs;exact fin (v:=V.non) (u:=Value.none) J rfl q
 | brk =>
  obtain ⟨_,_,_,q⟩:=hs;exact False.elim q
 | cont =>
  obtain ⟨_,_,_,q⟩:=hs;exact False.elim q
section
variable {id T:String} {r:List V->Hp->VK->Prop}
def F0 (r:List V->Hp->VK->Prop) (t:TA):TE:=fun σ H Q=>t σ H fun vs H1=>r vs H1 Q
theorem Bg (hc : cF X (.builtin id) r) (hg : Gl X x) (hm : X.mg x = none) (hv : bootBuiltins x = some (.builtin id)) (ha : PA X (e :: es) t) (hn : x ≠ "__name__" := by decide) (sJ : (x == ("__debug__" : Str)) = false := by decide)
    (he:starEach (e :: es) X.env = (false,eval e X.env) :: starEach es X.env:=by rfl) (sE:(backTo pos (starEach es X.env)).any (·.1) = false:=by rfl):PE X (.Call (.Name x p) (e :: es) [] pos) (F0 r t):=by
 intro pins s σ H Q I h;refine wpAny_Call_Name_kw (lK I hg hm hv ?_ hn sJ);exact PyProof.Rows.callWith_builtin1 (cp (ha pos pins s σ H _ I h) fun us s1 ⟨vs,H1,I1,r1,q1⟩=>hc pins s1 σ H1 vs us Q I1 r1 q1) he sE
theorem yO (hc : cF X (.type T) r) (hg : Gl X x) (hm : X.mg x = none) (hv : bootBuiltins x = some (.type T)) (ha : PA X (e :: es) t) (hn : x ≠ "__name__" := by decide) (sJ : (x == ("__debug__" : Str)) = false := by decide)
    (he:starEach (e :: es) X.env = (false,eval e X.env) :: starEach es X.env:=by rfl) (sE:(backTo pos (starEach es X.env)).any (·.1) = false:=by rfl):PE X (.Call (.Name x p) (e :: es) [] pos) (F0 r t):=by
 intro pins s σ H Q I h;refine wpAny_Call_Name_kw (lK I hg hm hv ?_ hn sJ);exact PyProof.Rows.callWith_type1 (cp (ha pos pins s σ H _ I h) fun us s1 ⟨vs,H1,I1,r1,q1⟩=>hc pins s1 σ H1 vs us Q I1 r1 q1) he sE
end
end L2
namespace HT
open PySem PyProof.Rows
theorem eqAt_int (A:Around) (s:Shared) (a:Int) (t:Tok) (c:Int) (u:Tok):∃ e,SeqAt.EqAt A s (.int a t) (.int c u) e/\(e = true ↔ a = c) :=
 ⟨(a == c),SeqAt.EqAt.int_int a t c u,by simp⟩
theorem rcLt_int (A : Around) (s : Shared) (a : Int) (t : Tok) (c : Int) (u : Tok) (prog : Program) (w : World) (E : Value -> Shared -> Prop) (Q : Value -> Shared -> Prop) (h : Q (.bool (decide (a < c))) s) :
    wpAny (model prog w) A (richCompare .Lt (.int a t) (.int c u)) Q E s :=
 (PyProof.Rows.lt_int h:wpAny (model prog w) A (compareOp .Lt (.int a t) (.int c u)) Q E s)
section
variable {prog:Program} {w:World} {A:Around} {E:Value->Shared->Prop} {s:Shared}
theorem cat_tup {t b : Addr} {vs ws : List Value} {Q : Value -> Shared -> Prop} (ht : IsTup s.heap t vs.toArray) (hb : IsTup s.heap b ws.toArray) (hv : vs ≠ [])
    (h1:ws = []->Q (.ref t) s) (h2:ws ≠ []->Q (.ref s.heap.objs.size) { s with heap:=s.heap.push { cls:=.type "tuple",data:=.seq (vs ++ ws).toArray } })
    (hsz:vs.length + ws.length <= sizeLine):wpAny (model prog w) A (binaryOp .Add (.ref t) (.ref b)) Q E s:=by
 obtain ⟨⟨cls,dd,data,sl⟩,ho,hc,n,hd⟩:=id ht;obtain ⟨⟨Wl,Jx,data2,E8⟩,Iv,En,n2,hd2⟩:=id hb;simp only at hc hd En hd2;subst hc hd En hd2;have e:vs.toArray ++ ws.toArray = (vs ++ ws).toArray:=by simp
 by_cases hw:ws = []
 ·exact concat_meets ⟨_,ho,rfl⟩ ⟨_,Iv,rfl⟩ noFill_tuple_add seq_tuple_add PySem.F.slot_tuple_add PySem.F.entry_tuple_add (PySem.F.args_tuple_add_2 _ _)
   (tuple_addW1 t b vs.toArray ws.toArray n n2 dd Jx sl E8 (by simpa using hv) (by simp [hw])) ⟨ho,Iv,h1 hw⟩
 ·refine concat_meets ⟨_,ho,rfl⟩ ⟨_,Iv,rfl⟩ noFill_tuple_add seq_tuple_add PySem.F.slot_tuple_add PySem.F.entry_tuple_add (PySem.F.args_tuple_add_2 _ _)
   (tuple_addW2 t b vs.toArray ws.toArray n n2 dd Jx sl E8 (by simpa using hv) (by simpa using hw) (by rw [List.size_toArray,List.size_toArray];exact hsz)) ⟨ho,Iv,?_⟩
  rw [e];exact h2 hw
def sIx (n d:Nat):Option Int->Nat
 | none=>d
 | some v=>if v < 0 then (v + (n:Int)).toNat else min v.toNat n
theorem sIx_none (n d:Nat):sIx n d none = d:=rfl
theorem xD (n d k:Nat):sIx n d (some (k:Int)) = min k n:=by
 show (if (k:Int) < 0 then ((k:Int) + (n:Int)).toNat else min (k:Int).toNat n) = min k n
 rw [if_neg (by omega),Int.toNat_natCast]
theorem Gr (n d:Nat) (hd:d <= n) (o:Option Int):sIx n d o <= n:=by
 cases o with
 | none=>exact hd
 | some v =>
  show (if v < 0 then (v + (n:Int)).toNat else min v.toNat n) <= n
  by_cases hv:v < 0
  ·rw [if_pos hv];omega
  ·rw [if_neg hv];exact Nat.min_le_right _ _
theorem x' (v:Int) (n d:Nat):(if v < 0 then max (v + (n:Int)) 0 else min v (n:Int)) = ((sIx n d (some v):Nat):Int):=by
 show (if v < 0 then max (v + (n:Int)) 0 else min v (n:Int)) = (((if v < 0 then (v + (n:Int)).toNat else min v.toNat n):Nat):Int)
 by_cases hv:v < 0
 ·simp only [if_pos hv];omega
 ·simp only [if_neg hv];omega
theorem xf (lo hi:Option Int) (n:Nat):Builtin.Slice.sliceAdjust lo hi 1 (n:Int) = (((sIx n 0 lo:Nat):Int),((sIx n n hi:Nat):Int)):=by
 have h1:¬ ((1:Int) < 0):=by omega
 unfold Builtin.Slice.sliceAdjust;simp only [h1,if_false];refine Prod.ext ?_ ?_
 ·cases lo with
  | none=>rfl
  | some v=>exact x' v n 0
 ·cases hi with
  | none=>rfl
  | some v=>exact x' v n n
theorem wu (i j:Nat):Builtin.Slice.slicePlaces (i:Int) (j:Int) 1 = j - i:=by
 unfold Builtin.Slice.slicePlaces;have h1:(1:Int) > 0:=by omega
 simp only [h1,if_true,Int.ediv_one]
 split <;> omega
theorem nO {v:Value} {o:Option Int} {Q:Option Int->Shared->Prop} (p:IsPart v o) (h:Q o s):wpAny (model prog w) A (Builtin.Slice.slicePartIndex v) Q E s:=by
 cases p with
 | none=>exact slicePart_none h
 | int i t=>exact slicePart_int h
theorem kW {sl : Addr} {vl vu : Value} {lo hi : Option Int} {n : Nat} {Q : Int × Int × Nat -> Shared -> Prop} (hs : s.heap.IsSliceOf sl vl vu .none) (pl : IsPart vl lo) (pu : IsPart vu hi)
    (h:Q (((sIx n 0 lo:Nat):Int),1,sIx n n hi - sIx n 0 lo) s):wpAny (model prog w) A (Builtin.Slice.sliceApplied (.ref sl) (pure (n:Int))) Q E s:=by
 obtain ⟨os,K2,X6,Nf⟩:=id hs;unfold Builtin.Slice.sliceApplied Builtin.Slice.sliceFields;refine wpAny_bind (wpAny_bind (wpAny_field K2 Nf (x:=vl) rfl (wpAny_bind (wpAny_field K2 Nf (x:=vu) rfl (wpAny_bind (wpAny_field K2 Nf (x:=.none) rfl (wpAny_pure ?_)))))));refine wpAny_bind (slicePart_none ?_);show wpAny _ _ (if ((1:Int) == 0) = true then _ else _) _ _ s
 rw [if_neg (by decide)];refine wpAny_bind (nO pl (wpAny_bind (nO pu (wpAny_bind (wpAny_pure ?_)))));show wpAny _ _ (match Builtin.Slice.sliceAdjust lo hi 1 (n:Int) with | (lo,hi)=>pure (lo,(1:Int),Builtin.Slice.slicePlaces lo hi 1)) _ _ s
 rw [xf lo hi n];show wpAny _ _ (pure (((sIx n 0 lo:Nat):Int),(1:Int),Builtin.Slice.slicePlaces ((sIx n 0 lo:Nat):Int) ((sIx n n hi:Nat):Int) 1)) _ _ s;rw [wu];exact wpAny_pure h
theorem A9 (xs:Array Value) (i k:Nat):((List.range k).filterMap fun (m:Nat)=>xs[((i:Int) + (m:Int) * 1).toNat]?).toArray = ((xs.toList.drop i).take k).toArray:=by
 have e:(fun (m:Nat)=>xs[((i:Int) + (m:Int) * 1).toNat]?) = fun m=>xs[i + m]?:=by
  funext m
  have:((i:Int) + (m:Int) * 1).toNat = i + m:=by omega
  rw [this]
 rw [e];have:=pick_run xs i k;rw [List.filterMap_map] at this;have e2:((fun x=>xs[x]?) ∘ fun x=>i + x) = fun m=>xs[i + m]?:=rfl
 rw [e2] at this;rw [this]
theorem getItem_tuple_cut {t sl : Addr} {items : Array Value} {vl vu : Value} {lo hi : Option Int} {Q : Value -> Shared -> Prop} (ht : IsTup s.heap t items) (hs : s.heap.IsSliceOf sl vl vu .none) (pl : IsPart vl lo) (pu : IsPart vu hi)
    (hw:¬ (sIx items.size 0 lo = 0/\sIx items.size items.size hi = items.size))
    (h:Q (.ref s.heap.objs.size) { s with heap:=s.heap.push { cls:=.type "tuple",data:=.seq ((items.toList.drop (sIx items.size 0 lo)).take (sIx items.size items.size hi - sIx items.size 0 lo)).toArray } })
    (hsz:items.size <= sizeLine):wpAny (model prog w) A (getItem (.ref t) (.ref sl)) Q E s:=by
 have xW:sizeOk (.seq ((items.toList.drop (sIx items.size 0 lo)).take (sIx items.size items.size hi - sIx items.size 0 lo)).toArray):=by
  show ((items.toList.drop (sIx items.size 0 lo)).take (sIx items.size items.size hi - sIx items.size 0 lo)).toArray.size <= sizeLine;rw [List.size_toArray,List.length_take,List.length_drop,Array.length_toList];omega
 have hj:sIx items.size items.size hi <= items.size:=Gr _ _ (Nat.le_refl _) hi;obtain ⟨os,K2,X6,Nf⟩:=id hs;have hTs:s.TypeIs (.ref sl) "slice":=⟨os,K2,X6⟩;unfold getItem
 try with_reducible refine wpAny_holding ?_
 first | refine wpAny_bind (wpAny_pure ?_) | skip
 refine wpAny_bind (wpAny_sequenceKey ht.typeIs (by decide) ?_);refine wpAny_bind (wpAny_callSpecial?_slot (name:=Str.ofString "__getitem__") ht.typeIs PyProof.Rows.slot_tuple_getitem
  (wpAny_call_entry PyProof.Rows.slot_tuple_getitem ht.typeIs entry_tuple_getitem ?_ (args_tuple_getitem _ _)))
 show wpAny _ _ (Builtin.Tuple.tupleItemsOf (.ref t) >>= _) _ _ s;refine wpAny_bind (tupleItemsOf_ ht ?_);refine wpAny_bind (wpAny_typeOf hTs ?_);rw [if_pos (by decide)];refine wpAny_bind (kW hs pl pu ?_);have S6:¬ ((((sIx items.size 0 lo:Nat):Int) == 0 && (1:Int) == 1 && (sIx items.size items.size hi - sIx items.size 0 lo) == items.size) = true):=by
  intro q;rw [Bool.and_eq_true,Bool.and_eq_true] at q;have q1:((sIx items.size 0 lo:Nat):Int) = 0:=eq_of_beq q.1.1;have q2:sIx items.size items.size hi - sIx items.size 0 lo = items.size:=eq_of_beq q.2;exact hw ⟨by omega,by omega⟩
 show wpAny _ _ (if (((sIx items.size 0 lo:Nat):Int) == 0 && (1:Int) == 1 && (sIx items.size items.size hi - sIx items.size 0 lo) == items.size) = true then _ else _) _ _ s
 rw [if_neg S6,A9]
 first
  | exact wpAny_bind (m:=Builtin.Tuple.tupleExact _) (wpAny_newObj_type (wpAny_pure ⟨_,rfl,wpAny_pure h⟩) xW)
  | exact wpAny_bind (m:=Builtin.Tuple.tupleExact _) (wpAny_newObj_type (wpAny_bind (wpAny_pure (wpAny_pure ⟨_,rfl,wpAny_pure h⟩))) xW)
  | exact wpAny_bind (wpAny_bind (m:=Builtin.Tuple.tupleExact _) (wpAny_newObj_type (wpAny_pure (wpAny_pure ⟨_,rfl,wpAny_pure h⟩)) xW))
  | exact wpAny_bind (wpAny_bind (m:=Builtin.Tuple.tupleExact _) (wpAny_newObj_type (wpAny_pure ⟨_,rfl,wpAny_pure h⟩) xW))
end
end HT
namespace L2
open PySem PySem.Spec PyProof.Rows
variable {X:Cx} {xs:List V} {α:Type} {n:Nat} {pins:List (Addr × Obj)} {σ:St} {H:Hp} {s:Shared} {x:V} {v:Value}
abbrev TO:=St->Hp->(Option Int->Hp->Prop)->Prop
def PO (X:Cx) (e:Option Expr) (t:TO):Prop :=
 ∀ (pins:List (Addr × Obj)) (s:Shared) (σ:St) (H:Hp) (Q:Option Int->Hp->Prop),Inv X pins σ H s->t σ H Q ->
  wpAny (model X.prog X.w) X.A (evalPart e X.env) (fun u s'=>∃ o H',Inv X pins σ H' s'/\IsPart u o/\Q o H') X.xe s
def jZ:TO:=fun _ H Q=>Q none H
def tJ (t:TE):TO:=fun σ H Q=>t σ H fun x H1=>∃ i,x = .int i/\Q (some i) H1
section
variable {e:Expr} {te:TE} {lo hi:Option Expr} {tl th:TO} {pos p2:Pos}
theorem DF:PO X none jZ:=by
 intro pins s σ H Q I h;rw [evalPart_none];exact wpAny_pure ⟨none,H,I,.none,h⟩
theorem DE (h:PE X e te):PO X (some e) (tJ te):=by
 intro pins s σ H Q I hw;rw [evalPart_some];refine cp (h pins s σ H _ I hw) fun u s1 ⟨x,H1,I1,r1,q1⟩=>?_
 obtain ⟨i,rfl,q⟩:=q1;obtain ⟨t,rfl⟩:=r1;exact ⟨some i,H1,I1,.int i t,q⟩
def SlR (X:Cx) (r:V->Option Int->Option Int->Hp->VK->Prop):Prop :=
 ∀ (pins:List (Addr × Obj)) (s:Shared) (σ:St) (H:Hp) (x:V) (v vl vu:Value) (lo hi:Option Int) (sl:Addr) (Q:VK),Inv X pins σ H s->RelV x v->s.heap.IsSliceOf sl vl vu .none->IsPart vl lo->IsPart vu hi->r x lo hi H Q ->
  ∃ T id,typeLookup (.type T) "__getitem__" = pure (some (.builtin id))/\s.TypeIs v T/\wpAny (model X.prog X.w) X.A (getItem v (.ref sl)) (EP X pins σ Q) X.xe s
theorem SlR.or {r r':V->Option Int->Option Int->Hp->VK->Prop} (h:SlR X r) (h':SlR X r'):SlR X (fun x lo hi H Q=>r x lo hi H Q \/ r' x lo hi H Q):=by
 intro pins s σ H x v vl vu lo hi sl Q I rx hs pl pu q
 rcases q with q | q
 ·exact h pins s σ H x v vl vu lo hi sl Q I rx hs pl pu q
 ·exact h' pins s σ H x v vl vu lo hi sl Q I rx hs pl pu q
def JI (r:V->Option Int->Option Int->Hp->VK->Prop) (te:TE) (tl th:TO):TE:=fun σ H Q=>te σ H fun x H1=>tl σ H1 fun l H2=>th σ H2 fun u H3=>r x l u H3 Q
theorem Bb {r:V->Option Int->Option Int->Hp->VK->Prop} (hr:SlR X r) (he:PE X e te) (hl:PO X lo tl) (hu:PO X hi th):PE X (.Subscript e (.Slice lo hi none p2) pos) (JI r te tl th):=by
 intro pins s σ H Q I h;refine Subscript_ (cp (he pins s σ H _ I h) fun v s1 ⟨x,H1,I1,r1,q1⟩=>?_)
 refine wpAny_Slice (cp (hl pins s1 σ H1 _ I1 q1) fun vl s2 ⟨l,H2,I2,pl,q2⟩=>cp (hu pins s2 σ H2 _ I2 q2) fun vu s3 ⟨u,H3,I3,pu,q3⟩=>?_)
 rw [evalPart_none];refine wpAny_pure ?_;have I4:Inv X pins σ H3 { s3 with heap:=s3.heap.push { cls:=.type "slice",data:=.fields #[vl,vu,.none] } }:=I3.kept (t':=s3.toks) fun b ob q=>Heap.get?_push_of_some _ q
 obtain ⟨T,id,hT,ht,hg⟩:=hr pins { s3 with heap:=s3.heap.push { cls:=.type "slice",data:=.fields #[vl,vu,.none] } } σ H3 x v vl vu l u s3.heap.objs.size Q I4 r1 (Heap.IsSliceOf.new ..) pl pu q3;show wpAny (model X.prog X.w) X.A (subscriptTail e (.Slice lo hi none p2) v (.ref s3.heap.objs.size)) (EP X pins σ Q) X.xe { s3 with heap:=s3.heap.push { cls:=.type "slice",data:=.fields #[vl,vu,.none] } };exact tail_any (ops:=[.ref s3.heap.objs.size,v]) ht hT hg (by with_unfolding_all rfl)
def mT (xs:List V) (lo hi:Option Int):List V:=(xs.drop (HT.sIx xs.length 0 lo)).take (HT.sIx xs.length xs.length hi - HT.sIx xs.length 0 lo)
theorem mf (xs:List V) (lo hi:Option Int):(mT xs lo hi).length <= xs.length:=by
 unfold mT;rw [List.length_take,List.length_drop];omega
def JX (K:W.Frag):V->Option Int->Option Int->Hp->VK->Prop:=fun x lo hi H Q=>∃ a xs,x = .ref a/\SqT K H a xs /\
 ¬ (HT.sIx xs.length 0 lo = 0/\HT.sIx xs.length xs.length hi = xs.length)/\∀ p,H p = none->Q (.ref p) (upd H p (.tup (mT xs lo hi)))
theorem Gi:SlR X (JX X.K):=by
 intro pins s σ H x v vl vu lo hi sl Q I rx hs pl pu h;obtain ⟨a,xs,rfl,hx,hw,q⟩:=h
 cases rx
 obtain ⟨its,r,ht,hz⟩:=I.tuple hx;have hlen:its.toArray.size = xs.length:=by rw [List.size_toArray];exact r.length.symm
 refine ⟨"tuple",_,PyProof.Rows.slot_tuple_getitem.lookup,ht.typeIs,?_⟩;refine HT.getItem_tuple_cut ht hs pl pu (by rw [hlen];exact hw) ?_ (by rw [hlen];exact hz);rw [hlen];refine ⟨.ref s.heap.objs.size,_,I.laid (t':=s.toks) (o:=.tup (mT xs lo hi)) (fun b ob q=>Heap.get?_push_of_some _ q) (Nat.le_refl _) ?_,rfl,q _ (I.hok.fresh (Nat.le_refl _))⟩;exact ⟨Nat.le_trans (mf xs lo hi) hz,_,(r.drop (HT.sIx xs.length 0 lo)).take (HT.sIx xs.length xs.length hi - HT.sIx xs.length 0 lo),IsTup.new _ _⟩
def Fj (K:W.Frag):R2:=fun x y H Q=>∃ a b xs ys,x = .ref a/\y = .ref b/\SqT K H a xs/\SqT K H b ys/\xs ≠ []/\xs.length + ys.length <= sizeLine /\
 (ys = []->Q (.ref a) H)/\(ys ≠ []->∀ p,H p = none->Q (.ref p) (upd H p (.tup (xs ++ ys))))
theorem Vals.nil_iff {us:List Value} (r:Vals xs us):us = [] ↔ xs = []:=by
 cases r with
 | nil=>simp
 | cons _ _=>simp
theorem D0:OpR X (binaryOp .Add) (Fj X.K):=by
 intro pins s σ H x y v u Q I rx ry h;obtain ⟨a,b,xs,ys,rfl,rfl,ha,hb,hx,hz,q1,q2⟩:=h
 cases rx
 cases ry
 obtain ⟨its,r1,p1,_⟩:=I.tuple ha;obtain ⟨iE,r2,p2,_⟩:=I.tuple hb;refine HT.cat_tup p1 p2 (fun z=>hx (r1.nil_iff.mp z)) (fun z=>⟨.ref a,H,I,rfl,q1 (r2.nil_iff.mp z)⟩) (fun z=>?_) (by rw [<- r1.length,<- r2.length];exact hz)
 refine ⟨.ref s.heap.objs.size,_,I.laid (t':=s.toks) (o:=.tup (xs ++ ys)) (fun b ob q=>Heap.get?_push_of_some _ q) (Nat.le_refl _) ?_,rfl,q2 (fun w=>z (r2.nil_iff.mpr w)) _ (I.hok.fresh (Nat.le_refl _))⟩;exact ⟨by rw [List.length_append];exact hz,_,r1.append r2,IsTup.new _ _⟩
end
def Fu (n:Nat) (i:Int):Option Nat:=if 0 <= i then (if i < n then some i.toNat else none) else if -(n:Int) <= i then some (i + n).toNat else none
def mj (xs:List α) (i:Int):Option α:=(Fu xs.length i).bind fun j=>xs[j]?
theorem Eh {i:Int} {j:Nat} (h:Fu n i = some j):seqIndex? i n = some j/\j < n/\-(n:Int) <= i/\i < n:=by
 unfold Fu at h
 by_cases h0:0 <= i
 ·rw [if_pos h0] at h
  by_cases h1:i < n
  ·rw [if_pos h1] at h;have e:i.toNat = j:=Option.some.inj h;exact ⟨by rw [seqIndex_of h0 h1,e],by omega,by omega,h1⟩
  ·rw [if_neg h1] at h;cases h
 ·rw [if_neg h0] at h
  by_cases h1:-(n:Int) <= i
  ·rw [if_pos h1] at h;have e:(i + n).toNat = j:=Option.some.inj h;exact ⟨by rw [seqIndex_neg (by omega) h1,e],by omega,h1,by omega⟩
  ·rw [if_neg h1] at h;cases h
theorem sS {xs:List α} {i:Int} {v:α} (h:mj xs i = some v):∃ j,seqIndex? i xs.length = some j/\xs[j]? = some v/\j < xs.length/\-(xs.length:Int) <= i/\i < xs.length:=by
 unfold mj at h
 cases e:Fu xs.length i with
 | none=>rw [e] at h;cases h
 | some j =>
  rw [e] at h;obtain ⟨h1,h2,h3,h4⟩:=Eh e;exact ⟨j,h1,h,h2,h3,h4⟩
theorem d6 {xs:List α} {j:Nat} {v:α} (h:xs[j]? = some v):mj xs (j:Int) = some v:=by
 have hj:j < xs.length:=(List.getElem?_eq_some_iff.mp h).1;have e:Fu xs.length (j:Int) = some j:=by
  unfold Fu;rw [if_pos (by omega),if_pos (by omega)];simp
 unfold mj;rw [e];exact h
theorem Cw (xs:List α) (v:α):mj (xs ++ [v]) (-1) = some v:=by
 have hl:(xs ++ [v]).length = xs.length + 1:=by simp
 have e:Fu (xs ++ [v]).length (-1) = some xs.length:=by
  unfold Fu;rw [hl,if_neg (by decide),if_pos (by omega)]
  congr 1
  omega
 unfold mj;rw [e];show (xs ++ [v])[xs.length]? = some v;simp
def yg (b:Expr):Prop:=∀ o i,subscripted b false o i = operate [o,i] (getItem o i)
def IxR (X:Cx) (r:R2):Prop :=
 ∀ (value slice:Expr) (pins:List (Addr × Obj)) (s:Shared) (σ:St) (H:Hp) (x y:V) (v u:Value) (Q:VK),Inv X pins σ H s->RelV x v->RelV y u->r x y H Q ->
  subscripted slice false v u = operate [v,u] (getItem v u)->wpAny (model X.prog X.w) X.A (subscriptTail value slice v u) (EP X pins σ Q) X.xe s
def YQ (X:Cx) (id:String) (r:V->List V->Hp->VK->Prop):Prop :=
 ∀ (pins:List (Addr × Obj)) (s:Shared) (σ:St) (H:Hp) (x:V) (xs:List V) (v:Value) (us:List Value) (Q:VK),Inv X pins σ H s->RelV x v->Vals xs us->r x xs H Q ->
  wpAny (model X.prog X.w) X.A (call (.builtin id) (v :: us)) (EP X pins σ Q) X.xe s
section
variable {a b:Expr} {ta tb:TE} {pos:Pos}
theorem IxR.or {r r':R2} (h:IxR X r) (h':IxR X r'):IxR X (fun x y H Q=>r x y H Q \/ r' x y H Q):=by
 intro value slice pins s σ H x y v u Q I rx ry q hs
 rcases q with q | q
 ·exact h value slice pins s σ H x y v u Q I rx ry q hs
 ·exact h' value slice pins s σ H x y v u Q I rx ry q hs
theorem Kl {r:R2} (hr:IxR X r) (ha:PE X a ta) (hb:PE X b tb) (hs:yg b):PE X (.Subscript a b pos) (yn r ta tb):=by
 intro pins s σ H Q I h;exact Subscript_ (IT ha hb I h fun v u s2 x y H2 I2 rx ry q=>hr a b pins s2 σ H2 x y v u Q I2 rx ry q (hs _ _))
def J8 (K:W.Frag):R2:=fun x y H Q=>∃ p xs i v,x = .ref p/\y = .int i/\SqL K H p xs/\mj xs i = some v/\Q v H
def J6 (K:W.Frag):R2:=fun x y H Q=>∃ p xs i v,x = .ref p/\y = .int i/\SqT K H p xs/\mj xs i = some v/\Q v H
def J7:R2:=fun x y H Q=>∃ z i c,x = .str z/\y = .int i/\z.length <= sizeLine/\mj z.cps.toList i = some c/\Q (.str ⟨#[c]⟩) H
theorem Eg:IxR X (J8 X.K):=by
 intro value slice pins s σ H x y v u Q I rx ry h hs;obtain ⟨p,xs,i,z,rfl,rfl,hq,he,q⟩:=h
 cases rx
 obtain ⟨t,rfl⟩:=ry;obtain ⟨its,r,pl,hz⟩:=I.list hq;obtain ⟨j,h1,h2,h3,h4,h5⟩:=sS he;obtain ⟨w,ew,AD⟩:=r.get h2;have hl:=r.length;have hn:=rY;have fin:EP X pins σ Q w s:=⟨z,H,I,AD,q⟩
 by_cases h0:0 <= i
 ·have hj:i.toNat = j:=by
   rw [seqIndex_of h0 h5] at h1;exact Option.some.inj h1
  exact item_listR pl.isList h0 (by omega) (by rw [hj];simpa using ew) fin hs
 ·have hj:(i + (its.toArray.size:Int)).toNat = j:=by
   rw [seqIndex_neg (by omega) h4] at h1;rw [List.size_toArray,<- hl];exact Option.some.inj h1
  exact subscriptTail_builtinR (x:=w) pl.isList.typeIs slot_list_getitem.lookup
   (wpAny_getItem_list_neg (Q:=fun r s'=>r = w/\EP X pins σ Q r s') pl.isList (by omega) (by rw [List.size_toArray] <;> omega) (by omega) (by rw [hj];simpa using ew) ⟨rfl,fin⟩) hs
theorem Ih:IxR X (J6 X.K):=by
 intro value slice pins s σ H x y v u Q I rx ry h hs;obtain ⟨p,xs,i,z,rfl,rfl,hq,he,q⟩:=h
 cases rx
 obtain ⟨t,rfl⟩:=ry;obtain ⟨its,r,pl,hz⟩:=I.tuple hq;obtain ⟨j,h1,h2,h3,h4,h5⟩:=sS he;obtain ⟨w,ew,AD⟩:=r.get h2;have hl:=r.length;have hn:=rY;have fin:EP X pins σ Q w s:=⟨z,H,I,AD,q⟩;exact subscriptTail_builtinR (x:=w) pl.typeIs slot_tuple_getitem.lookup
  (getItem_tuple (j:=j) (Q:=fun r s'=>r = w/\EP X pins σ Q r s') pl (by omega) (by omega) (by rw [List.size_toArray,<- hl];exact h1) (by simpa using ew) ⟨rfl,fin⟩) hs
theorem Ii:IxR X J7:=by
 intro value slice pins s σ H x y v u Q I rx ry h hs;obtain ⟨z,i,c,rfl,rfl,hz,he,q⟩:=h;obtain ⟨t,rfl⟩:=rx;obtain ⟨t',rfl⟩:=ry;obtain ⟨j,h1,h2,h3,h4,h5⟩:=sS he;have hl:z.cps.toList.length = z.length:=by simp [Str.length]
 rw [hl] at h1 h4 h5;have hn:=rY;exact tail_any (typeIs_str s z t) slot_str_getitem.lookup (getItem_str (c:=c) (by
  have e1:decide (i < -(2 ^ 63:Int)) = false:=decide_eq_false (by omega);have e2:decide (i >= 2 ^ 63) = false:=decide_eq_false (by omega);rw [e1,e2,Bool.or_false]) (by rw [h1];simpa using h2) ⟨.str ⟨#[c]⟩,H,I.tok _,⟨_,rfl⟩,q⟩) hs
def Fh (K:W.Frag):R2:=fun x y H Q=>J8 K x y H Q \/ J6 K x y H Q \/ J7 x y H Q
theorem au:IxR X (Fh X.K):=Eg.or (Ih.or Ii)
theorem Inv.lst {pins : List (Addr × Obj)} {σ : St} {H : Hp} {s : Shared} {p : Addr} {xs : List V} (I : Inv X pins σ H s) (h : H p = some (.lst xs)) :
    ∃ (its:List Value) (n:Nat),Vals xs its/\s.heap.get? p = some { cls:=.type "list",data:=.seq its.toArray n }/\xs.length <= sizeLine:=by
 obtain ⟨z,its,n,r,e⟩:=I.hok p _ h;exact ⟨its,n,r,e,z⟩
theorem rB (lo hi:Option Int) (n:Nat):(sliceBounds lo hi none n).1 = ((HT.sIx n 0 lo:Nat):Int)/\(sliceBounds lo hi none n).2.1 = ((HT.sIx n n hi:Nat):Int)/\(sliceBounds lo hi none n).2.2 = 1:=by
 refine ⟨?_,?_,rfl⟩
 ·cases lo with
  | none=>simp [sliceBounds,HT.sIx]
  | some i =>
   simp only [sliceBounds,HT.sIx,Option.getD_none,show (1:Int) > 0 by decide,if_true]
   by_cases h:i < 0
   ·simp only [h,if_true] <;> omega
   ·simp only [h,if_false] <;> omega
 ·cases hi with
  | none=>simp [sliceBounds,HT.sIx]
  | some i =>
   simp only [sliceBounds,HT.sIx,Option.getD_none,show (1:Int) > 0 by decide,if_true]
   by_cases h:i < 0
   ·simp only [h,if_true] <;> omega
   ·simp only [h,if_false] <;> omega
theorem pN (its:List Value) (lo hi:Option Int):slicePick its.toArray lo hi none = ((its.drop (HT.sIx its.length 0 lo)).take (HT.sIx its.length its.length hi - HT.sIx its.length 0 lo)).toArray:=by
 obtain ⟨h1,h2,h3⟩:=rB lo hi its.toArray.size;unfold slicePick;rw [h1,h2,h3];simp only [sliceRange_one,pick_run,List.size_toArray] <;> rfl
def JZ (K:W.Frag):V->Option Int->Option Int->Hp->VK->Prop:=fun x lo hi H Q=>∃ a xs,x = .ref a/\SqL K H a xs/\∀ p,H p = none->Q (.ref p) (upd H p (.lst (mT xs lo hi)))
theorem Dd:SlR X (JZ X.K):=by
 intro pins s σ H x v vl vu lo hi sl Q I rx hs pl pu h;obtain ⟨a,xs,rfl,hx,q⟩:=h
 cases rx
 obtain ⟨its,r,ht,hz⟩:=I.list hx;have hlen:=r.length;refine ⟨"list",_,slot_list_getitem.lookup,ht.isList.typeIs,?_⟩;refine wpAny_getItem_list_slice ht.isList hs pl pu .none (by simp) ?_ (by rw [List.size_toArray] <;> omega);rw [pN,<- hlen];refine ⟨.ref s.heap.objs.size,_,I.laid (t':=s.toks) (o:=.lst (mT xs lo hi)) (fun b ob q=>Heap.get?_push_of_some _ q) (Nat.le_refl _) ?_,rfl,q _ (I.hok.fresh (Nat.le_refl _))⟩
 exact ⟨Nat.le_trans (mf xs lo hi) hz,_,0,(r.drop (HT.sIx xs.length 0 lo)).take (HT.sIx xs.length xs.length hi - HT.sIx xs.length 0 lo),Heap.get?_push_size _ rfl⟩
def kq:V->Bool
 | .non=>true
 | .bl _=>true
 | .int _=>true
 | .str _=>true
 | _=>false
def FH:V->V->Bool
 | .non,.non=>true
 | .bl a,.bl b=>a == b
 | .bl a,.int b=>(if a then 1 else 0) == b
 | .int a,.bl b=>a == (if b then 1 else 0)
 | .int a,.int b=>a == b
 | .str a,.str b=>a == b
 | _,_=>false
theorem IJ {A:Around} {y:V} {u:Value} (ry:RelV y u) (rx:RelV x v) (fy:kq y = true) (fx:kq x = true):SeqAt.EqAt A s u v (FH y x):=by
 cases y with
 | non =>
  cases ry
  cases x with
  | non=>cases rx;exact SeqAt.EqAt.same _
  | bl b=>cases rx;exact SeqAt.EqAt.none_bool b
  | int b=>obtain ⟨t,rfl⟩:=rx;exact SeqAt.EqAt.none_int b t
  | str b=>obtain ⟨t,rfl⟩:=rx;exact SeqAt.EqAt.none_str b t
  | _=>exact absurd (show false = true from fx) Bool.false_ne_true
 | bl a =>
  cases ry
  cases x with
  | non=>cases rx;exact SeqAt.EqAt.bool_none a
  | bl b=>cases rx;exact SeqAt.EqAt.bool_bool a b
  | int b=>obtain ⟨t,rfl⟩:=rx;exact SeqAt.EqAt.bool_int a b t
  | str b=>obtain ⟨t,rfl⟩:=rx;exact SeqAt.EqAt.bool_str a b t
  | _=>exact absurd (show false = true from fx) Bool.false_ne_true
 | int a =>
  obtain ⟨t',rfl⟩:=ry
  cases x with
  | non=>cases rx;exact SeqAt.EqAt.int_none a t'
  | bl b=>cases rx;exact SeqAt.EqAt.int_bool a t' b
  | int b=>obtain ⟨t,rfl⟩:=rx;exact SeqAt.EqAt.int_int a t' b t
  | str b=>obtain ⟨t,rfl⟩:=rx;exact SeqAt.EqAt.int_str a t' b t
  | _=>exact absurd (show false = true from fx) Bool.false_ne_true
 | str a =>
  obtain ⟨t',rfl⟩:=ry
  cases x with
  | non=>cases rx;exact SeqAt.EqAt.str_none a t'
  | bl b=>cases rx;exact SeqAt.EqAt.str_bool a t' b
  | int b=>obtain ⟨t,rfl⟩:=rx;exact SeqAt.EqAt.str_int a t' b t
  | str b=>obtain ⟨t,rfl⟩:=rx;exact SeqAt.EqAt.str_str a t' b t
  | _=>exact absurd (show false = true from fx) Bool.false_ne_true
 | _=>exact absurd (show false = true from fy) Bool.false_ne_true
def Ew (x:V) (u:Value):Bool:=match u with
 | .none=>FH .non x
 | .bool b=>FH (.bl b) x
 | .int i _=>FH (.int i) x
 | .str z _=>FH (.str z) x
 | _=>false
theorem B8 {y:V} {u:Value} (r:RelV y u) (f:kq y = true):Ew x u = FH y x:=by
 cases y with
 | non=>cases r;rfl
 | bl b=>cases r;rfl
 | int i=>obtain ⟨t,rfl⟩:=r;rfl
 | str z=>obtain ⟨t,rfl⟩:=r;rfl
 | _=>exact absurd (show false = true from f) Bool.false_ne_true
theorem sU {x:V}:∀ {xs:List V} {us:List Value},Vals xs us->xs.all kq = true->us.any (Ew x) = xs.any fun y=>FH y x
 | _,_,.nil,_=>rfl
 | y :: xs,u :: us,.cons r t,f=>by
  rw [List.all_cons,Bool.and_eq_true] at f;rw [List.any_cons,List.any_cons,B8 r f.1,sU t f.2]
theorem oA {A:Around} {s:Shared} {x:V} {v:Value} (rx:RelV x v) (fx:kq x = true):∀ {xs:List V} {us:List Value},Vals xs us->xs.all kq = true->∀ u ∈ us,SeqAt.EqAt A s u v (Ew x u)
 | _,_,.nil,_=>fun u hu=>by cases hu
 | y :: xs,u :: us,.cons r t,f=>fun u' hu=>by
  rw [List.all_cons,Bool.and_eq_true] at f
  rcases List.mem_cons.mp hu with rfl | hu
  ·rw [B8 r f.1];exact IJ r rx f.1 fx
  ·exact oA rx fx t f.2 u' hu
def XJ (x:V) (xs:List V):Bool:=xs.any fun y=>FH y x
def Xu (K:W.Frag) (neg:Bool):R2:=fun x y H Q=>∃ p xs,y = .ref p/\(SqL K H p xs \/ SqT K H p xs)/\kq x = true/\xs.all kq = true/\Q (.bl (if neg then !XJ x xs else XJ x xs)) H
theorem rO:OpR X (compareOp .NotIn) (Xu X.K true):=by
 intro pins s σ H x y v u Q I rx ry h;obtain ⟨p,xs,rfl,hq,fx,fs,q⟩:=h
 cases ry
 rcases hq with hq | hq
 ·obtain ⟨its,r,pl,hz⟩:=I.list hq;refine SeqAt.notIn_listAt (Ew x) pl.isList (fun w hw=>oA rx fx r fs w (by simpa using hw)) ⟨.bl _,H,I,rfl,?_⟩
  rw [show its.toArray.any (Ew x) = its.any (Ew x) by simp,sU r fs];exact q
 ·obtain ⟨its,r,pl,hz⟩:=I.tuple hq;refine SeqAt.notIn_tupleAt (Ew x) pl (fun w hw=>oA rx fx r fs w (by simpa using hw)) ⟨.bl _,H,I,rfl,?_⟩
  rw [show its.toArray.any (Ew x) = its.any (Ew x) by simp,sU r fs];exact q
theorem qd:cF X (.type "tuple") (fun xs H Q=>∃ p ys,xs = [.ref p]/\((SqL X.K H p ys/\∀ l,H l = none->Q (.ref l) (upd H l (.tup ys))) \/ (SqT X.K H p ys/\Q (.ref p) H))):=by
 intro pins s σ H xs us Q I r h;obtain ⟨p,ys,rfl,h⟩:=h;obtain ⟨u,rfl,rx⟩:=vals1 r
 cases rx
 rcases h with ⟨hq,q⟩ | ⟨hq,q⟩
 ·obtain ⟨its,r',pl,hz⟩:=I.list hq;have hlen:=r'.length;refine call_tuple_list pl.isList (fun h' kp=>?_) (by simp only [List.size_toArray] <;> omega)
  have I1:Inv X pins σ H { s with heap:=h' }:=I.kept (t':=s.toks) kp;have I2:Inv X pins σ (upd H h'.objs.size (.tup ys)) { s with heap:=h'.push { cls:=.type "tuple",data:=.seq its.toArray } } :=
   I1.laid (t':=s.toks) (fun b o e=>Heap.get?_push_of_some _ e) (Nat.le_refl _) (show ObjOk X.prog X.w _ _ _ (.tup ys) from ⟨hz,its,r',IsTup.new _ _⟩)
  exact ⟨.ref h'.objs.size,_,I2,rfl,q _ (I1.hok.fresh (Nat.le_refl _))⟩
 ·obtain ⟨its,r',pl,hz⟩:=I.tuple hq;exact call_tuple_same pl ⟨.ref p,H,I,rfl,q⟩
def MK (K:W.Frag) (T:String) (x:V) (H:Hp):Prop:=match x with
 | .str _=>T = "str"
 | .int _=>T = "int"
 | .ref p => (T = "list" /\ ∃ xs, SqL K H p xs) \/ (T = "tuple" /\ ∃ o, K.lookup p = some o /\ o.cls = .type "tuple" /\ o.dict = none) \/
     (T = "dict"/\((∃ az,H p = some (.dK az)) \/ ∃ az,H p = some (.dT az))) \/ (T = "set"/\∃ S n,H p = some (.set S n))
 | _=>False
theorem FP {T : String} (I : Inv X pins σ H s) (r : RelV x v) (ty : MK X.K T x H) :
    s.TypeIs v T/\∀ a,v = .ref a->∃ ob,s.heap.get? a = some ob/\ob.dict = none:=by
 cases x with
 | str z =>
  obtain ⟨t,rfl⟩:=r
  cases (show T = "str" from ty)
  exact ⟨typeIs_str s z t,fun _ e=>nomatch e⟩
 | int i =>
  obtain ⟨t,rfl⟩:=r
  cases (show T = "int" from ty)
  exact ⟨typeIs_int s i t,fun _ e=>nomatch e⟩
 | ref p =>
  cases r
  rcases ty with ⟨rfl,xs,hq⟩ | ⟨rfl,o,hk,hc,hd⟩ | ⟨rfl,hk⟩ | ⟨rfl,S,n,hk⟩
  ·obtain ⟨its,_,pl,_⟩:=I.list hq;refine ⟨pl.isList.typeIs,fun a e=>?_⟩
   cases e
   obtain ⟨o,n,e,c,hd,_⟩:=pl;exact ⟨o,e,hd⟩
  ·refine ⟨⟨o,I.kIn p o hk,hc⟩,fun a e=>?_⟩
   cases e
   exact ⟨o,I.kIn _ o hk,hd⟩
  ·have z:∃ o,s.heap.get? p = some o/\o.ExactDict:=by
    rcases hk with ⟨az,hk⟩ | ⟨az,hk⟩
    ·obtain ⟨_,_,_,_,o,_,_,e,ex,_⟩:=I.hok p _ hk;exact ⟨o,e,ex⟩
    ·obtain ⟨_,_,_,_,o,_,_,e,ex,_⟩:=I.hok p _ hk;exact ⟨o,e,ex⟩
   obtain ⟨o,e,ex⟩:=z;refine ⟨⟨o,e,ex.1⟩,fun a e2=>?_⟩
   cases e2
   exact ⟨o,e,ex.2.1⟩
  ·obtain ⟨o,_,_,_,e,ex,_⟩:=I.hok p _ hk;refine ⟨⟨o,e,ex.1⟩,fun a e2=>?_⟩
   cases e2
   exact ⟨o,e,ex.2.1⟩
 | _=>exact False.elim ty
def CY (K:W.Frag) (T:String) (r:V->List V->Hp->VK->Prop) (to:TE) (t:TA):TE:=fun σ H Q=>to σ H fun x H1=>MK K T x H1/\t σ H1 fun xs H2=>r x xs H2 Q
variable {o e:Expr} {es:List Expr} {to:TE} {t:TA} {name:Str} {apos cz:Pos} {T id:String} {r:V->List V->Hp->VK->Prop}
theorem oe (pa : PlainAttrs T) (slot : Slot T name id) (Fy : typeOf (.builtin id) = pure (.type "method_descriptor")) (hm : YQ X id r) (ho : PE X o to) (ha : PA X (e :: es) t)
    (fg:attributeBase o name X.env (eval o X.env) = eval o X.env:=by rfl)
    (jM:((backTo cz (starEach (e :: es) X.env)).all (fun x=>!x.1) && (backToKw cz (keywordEach [] X.env)).all (fun x=>x.1.isSome)
     && decide ((e :: es).length + ([]:List Keyword).length + (if ([]:List Keyword).isEmpty then 0 else 1) < 30)) = true:=by rfl)
    (fb:(apos.endLine == cz.line) = true:=by rfl) (hs:starEach (e :: es) X.env = (false,eval e X.env) :: starEach es X.env:=by rfl) (Ip:(backTo cz (starEach es X.env)).any (·.1) = false:=by rfl) :
    PE X (.Call (.Attribute o name apos) (e :: es) [] cz) (CY X.K T r to t):=by
 intro pins s σ H Q I h;refine wpAny_Call_method_late fg jM fb rfl (cp (ho pins s σ H _ I h) fun v s1 ⟨x,H1,I1,r1,ty,q1⟩=>?_)
 obtain ⟨h1,h2⟩:=FP I1 r1 ty;refine ⟨T,id,pa,slot,Fy,h1,h2,?_⟩;have hA:=ha cz pins s1 σ H1 _ I1 q1;rw [hs] at hA ⊢;refine Calls.callWith_builtin (by show (false || (backTo cz (starEach es X.env)).any (·.1)) = false;rw [Ip] <;> rfl) (Calls.evalArgs_plain ?_);exact cp hA fun us s2 ⟨vs,H2,I2,r2,q2⟩=>hm pins s2 σ H2 x vs v us Q I2 r1 r2 q2
/- xs.append(e),list.index on a module's tuple .. are YQ facts of 06m -/
end
def Jc (X:Cx) (id:String) (r:V->List V->Hp->VK->Prop):Prop :=
 ∀ (pins:List (Addr × Obj)) (s:Shared) (σ:St) (H:Hp) (x:V) (xs:List V) (v:Value) (us:List Value) (Q:VK),Inv X pins σ H s->RelV x v->Vals xs us->r x xs H Q ->
  wpAny (model X.prog X.w) X.A (call (.builtin id) (v :: us)) (EP X pins σ Q) X.xe s
theorem Vals.one:∀ {x:V} {us:List Value},Vals [x] us->∃ u,us = [u]/\RelV x u
 | _,_,.cons r .nil=>⟨_,rfl,r⟩
theorem Vals.zero:∀ {us:List Value},Vals [] us->us = []
 | _,.nil=>rfl
theorem Vals.rep {xs:List V} {us:List Value} (h:Vals xs us):∀ k:Nat,Vals (List.replicate k xs).flatten (List.replicate k us).flatten
 | 0=>.nil
 | k + 1=>by
  rw [List.replicate_succ,List.replicate_succ,List.flatten_cons,List.flatten_cons];exact Vals.append h (Vals.rep h k)
theorem foldl_rep (its : List Value) : ∀ (k : Nat) (acc : List Value),
    List.foldl (fun x1 x2=>x1 ++ x2) acc.toArray (List.replicate k its.toArray) = (acc ++ (List.replicate k its).flatten).toArray
 | 0,acc=>by simp
 | k + 1,acc=>by
  have e:acc.toArray ++ its.toArray = (acc ++ its).toArray:=by simp
  have e2:(acc ++ its) ++ (List.replicate k its).flatten = acc ++ (List.replicate (k + 1) its).flatten:=by
   rw [List.replicate_succ,List.flatten_cons,List.append_assoc]
  rw [<- e2,<- foldl_rep its k (acc ++ its),<- e,List.replicate_succ,List.foldl_cons]
section
variable {l b:Addr} {ys zs:List V}
theorem Inv.lset {its its' : List Value} {f : Array Value -> Array Value} {t' : Nat} (I : Inv X pins σ H s) (hH : H l = some (.lst xs))
    (e:s.heap.get? l = some { cls:=.type "list",data:=.seq its.toArray n }) (hf:f its.toArray = its'.toArray) (hv:Vals ys its') (hz:ys.length <= sizeLine) :
    Inv X pins σ (upd H l (.lst ys)) { s with heap:=s.heap.update l (Obj.mapSeq f),toks:=t' }:=by
 have q:=PySem.IsL.update e f;rw [hf] at q;refine I.write (x:=l) (e:=l) (by rw [hH];exact trivial) (.inl rfl) (fun b' u hb hu=>(Heap.get?_update_other s.heap (Obj.mapSeq f) (Ne.symm hb)).trans hu) ⟨_,q⟩ ?_
 exact ⟨hz,its',_,hv,q⟩
theorem Inv.lnew {its : List Value} {t' : Nat} (I : Inv X pins σ H s) (hv : Vals ys its) (hz : ys.length <= sizeLine) :
    Inv X pins σ (upd H s.heap.objs.size (.lst ys)) { s with heap:=s.heap.push { cls:=.type "list",data:=.seq its.toArray },toks:=t' } :=
 I.laid (fun _ _ q=>Heap.get?_push_of_some _ q) (Nat.le_refl _) ⟨hz,its,0,hv,Heap.get?_push_size _ rfl⟩
theorem Inv.fresh (I:Inv X pins σ H s):H s.heap.objs.size = none:=I.hok.fresh (Nat.le_refl _)
theorem Inv.lstM (I:Inv X pins σ H s) (hH:H l = some (.lst xs)):xs.length <= sizeLine/\∃ (its:List Value) (n:Nat),Vals xs its/\xs.length = its.length/\s.heap.get? l = some { cls:=.type "list",data:=.seq its.toArray n }:=by
 obtain ⟨z,its,n,r,e⟩:=I.hok l _ hH;exact ⟨z,its,n,r,r.length,e⟩
theorem Bo (h:n <= sizeLine):Builtin.List.listTooLong n = false:=by
 unfold Builtin.List.listTooLong;exact decide_eq_false (by omega)
end
section
def rL:V->List V->Hp->VK->Prop:=fun x vs H Q=>∃ l xs y,x = .ref l/\vs = [y]/\H l = some (.lst xs)/\xs.length < sizeLine/\Q .non (upd H l (.lst (xs ++ [y])))
theorem yY:Jc X "list.append" rL:=by
 intro pins s σ H x vs v us Q I rx rv h;obtain ⟨l,xs,y,rfl,rfl,hH,hz,q⟩:=h
 cases rx
 obtain ⟨u,rfl,ru⟩:=rv.one;obtain ⟨z,its,n,r,hl,e⟩:=I.lstM hH;refine call_meets F.slot_list_append ⟨_,e,rfl⟩ F.entry_list_append (F.args_list_append_2 _ _) (PySem.list_append l its.toArray n u (by rw [List.size_toArray];omega)) ⟨e,?_⟩;refine ⟨.non,_,I.lset (its':=its ++ [u]) hH e (by simp) (r.append (.cons ru .nil)) ?_,rfl,q⟩;rw [List.length_append,List.length_singleton];omega
def J':R2:=fun x y H Q=>∃ l b xs zs,x = .ref l/\y = .ref b/\H l = some (.lst xs)/\H b = some (.lst zs)/\xs.length + zs.length <= sizeLine/\∀ p,H p = none->Q (.ref p) (upd H p (.lst (xs ++ zs)))
theorem HH:OpR X (binaryOp .Add) J':=by
 intro pins s σ H x y v u Q I rx ry h;obtain ⟨l,b,xs,zs,rfl,rfl,hH,hB,hz,q⟩:=h
 cases rx
 cases ry
 obtain ⟨z,its,n,r,hl,e⟩:=I.lstM hH;obtain ⟨z2,iE,n2,r2,mS,e2⟩:=I.lstM hB;refine PySem.P.add_list e e2 ?_ (by rw [List.size_toArray,List.size_toArray];omega);have ea:its.toArray ++ iE.toArray = (its ++ iE).toArray:=by simp
 rw [ea];exact ⟨.ref _,_,I.lnew (t':=s.toks) (r.append r2) (by rw [List.length_append];omega),rfl,q _ I.fresh⟩
def J0:R2:=fun x y H Q=>∃ l k xs,x = .ref l/\y = .int k/\H l = some (.lst xs)/\-(2 ^ 63) <= k/\k < 2 ^ 63/\xs.length * k.toNat <= sizeLine /\
 ∀ p,H p = none->Q (.ref p) (upd H p (.lst (List.replicate k.toNat xs).flatten))
theorem len_rep (xs:List α) (k:Nat):(List.replicate k xs).flatten.length = k * xs.length:=by
 induction k with
 | zero=>simp
 | succ k ih=>rw [List.replicate_succ,List.flatten_cons,List.length_append,ih,Nat.succ_mul,Nat.add_comm]
theorem HC:OpR X (binaryOp .Mult) J0:=by
 intro pins s σ H x y v u Q I rx ry h;obtain ⟨l,k,xs,rfl,rfl,hH,h1,h2,hz,q⟩:=h
 cases rx
 obtain ⟨t,rfl⟩:=ry;obtain ⟨z,its,n,r,hl,e⟩:=I.lstM hH;have hlen:its.toArray.size * k.toNat <= sizeLine:=by rw [List.size_toArray,<- hl];exact hz
 have Tr:¬ its.toArray.size * k.toNat > (2 ^ 63 - 1) / 8:=by
  have:(sizeLine:Nat) <= (2 ^ 63 - 1) / 8:=by decide
  omega
 have Th:¬ (!Builtin.List.listFitsIndex k) = true:=by
  rw [fitsIndex_both h1 h2];exact Bool.false_ne_true
 have K4:¬ Builtin.List.listTooLong (its.toArray.size * k.toNat) = true:=by
  rw [Bo hlen];exact Bool.false_ne_true
 have S7:List.foldl (fun x1 x2=>x1 ++ x2) #[] (List.replicate (if its.toArray.isEmpty = true then 0 else k.toNat) its.toArray) = (List.replicate k.toNat its).flatten.toArray:=by
  have f0:∀ m:Nat,List.foldl (fun x1 x2=>x1 ++ x2) #[] (List.replicate m its.toArray) = (List.replicate m its).flatten.toArray:=fun m=>by
   have:=foldl_rep its m [];rw [List.nil_append] at this;exact this
  rw [f0]
  cases its with
  | nil=>simp
  | cons a r'=>rw [if_neg (by simp)]
 refine wpAny_binaryOp_repeat_ref (T:="list") (U:="int") (by decide) ⟨_,e,rfl⟩ (fun s'=>typeIs_int s' k t) noFill_list_mul F.fills_int_mul F.slot_int_rmul repeat_list F.slot_int_index.lookup
  (call_meets F.slot_int_rmul (typeIs_int s k t) F.entry_int_rmul (F.args_int_rmul_2 _ _) (int___rmul___int_list k t l its.toArray n)
   ⟨e,rfl,⟨_,e,rfl⟩,call_meets F.slot_list_mul ⟨_,e,rfl⟩ F.entry_list_mul (F.args_list_mul_2 _ _) (AutoListH.list___mul___list_int_3 l its.toArray n k t Th Tr K4) ⟨e,?_⟩⟩)
 rw [S7];exact ⟨.ref _,_,I.lnew (t':=s.toks) (r.rep k.toNat) (by rw [len_rep,Nat.mul_comm];exact hz),rfl,q _ I.fresh⟩
end
end L2
namespace Att
open PySem PySem.W PySem.Calls PyProof.Rows
theorem mR {P:Params} {h:Heap}:∀ (ns:List Int) (vs:List Value),WellAll P h vs (ns.map WData.int)->IntsAre vs ns:=by
 intro ns
 induction ns with
 | nil =>
  intro vs w;rw [List.map_nil] at w
  cases w
  exact .nil
 | cons n ns ih =>
  intro vs w;rw [List.map_cons] at w
  cases w with
  | cons a b =>
   cases a
   exact .cons _ _ (ih _ b)
theorem yA {l : OpenLaw} {n : Nat} (hn : l.most = some n) {P : Params} {h : Heap} {args : List WData} {vals : List Value}
    (BQ:l.row.toRowW.claim.pre args = true) (SM:WellAll P h vals args) :
    ∃ a vs ns,vals = [Value.ref a]/\args = [WData.list (ns.map WData.int)]/\h.get? a = some { cls:=.type "list",data:=.seq vs.toArray }/\IntsAre vs ns/\ns.length <= n:=by
 have hsh:WShape.hasAll [] args [.list .int] = true:=(pre_splitW BQ).1;have hc:l.pre.holds [] { args:=args } = true:=(pre_splitW BQ).2;obtain ⟨d,r,rfl,h1,h2⟩:=hasAllW_cons hsh;obtain rfl:=hasAllW_nil h2;obtain ⟨xs,rfl,h3⟩:=hasW_list h1;obtain ⟨ns,rfl⟩:=items_int h3;have hlen:ns.length <= n:=by
  unfold OpenLaw.pre at hc;have h4:(WTm.not (.lt (.lit (.int (n:Int))) (.len (.arg 0)))).holds [] { args:=[.list (ns.map .int)] } = true:=by
   have h4:=(holds_andW hc).1;rw [hn] at h4;exact h4
  have h5:=condW_of h4 (w_not (w_lt w_lit (w_len_list (w_arg rfl))));rw [List.length_map] at h5;refine Nat.le_of_not_lt fun q=>?_
  have q':(n:Int) < ((ns.length:Nat):Int):=by omega
  first
   | (rw [decide_eq_true q'] at h5;exact absurd h5 (by decide))
   | (simp at h5;omega)
 cases SM with
 | cons w1 w2 =>
  cases w2
  cases w1 with
  | list ho Tu=>exact ⟨_,_,ns,rfl,rfl,ho,mR ns _ Tu,hlen⟩
theorem yJ (l:OpenLaw) (args:List WData):l.row.toRowW.claim.post args (.bool true) args = true :=
 postW_of (r:=l.row.toRowW) (X:=(true == true))
  (show WShape.has [] (.bool true) .bool = true by first | rfl | decide | simp [WShape.has,WShape.arms,WShape.armsAll])
  (show (WTm.eq .res (.lit (.bool true))).value [] { args:=args,res:=some (.bool true),after:=args } = some (.bool (true == true)) from w_eq_bool (w_res rfl) w_lit) rfl
theorem attach_call {l : OpenLaw} {n : Nat} {q : Program} {loose : List Str} {XP : (Str -> Option Value) -> Heap -> Prop} {YP : World -> Heap -> Prop} {d : DefRec}
    (hn:l.most = some n) (Lh:d.params.defaults = [])
    (call:∀ (w:World) (s₀ s₁:Shared) (mg mb:Str->Option Value) (fa:Addr) (o:Obj) (pm cd doc:Value) (a:Addr) (vs:List Value) (ns:List Int),
     Ground q loose [] XP w s₀ mg mb s₁.heap->YP w s₁.heap ->
     s₁.heap.get? fa = some o->o.data = .func (docDef d.name d.params d.body d.scope pm cd doc)->s₁.heap.CodeRec cd d.name->mg d.name = some (.ref fa) ->
     s₁.heap.get? a = some { cls:=.type "list",data:=.seq vs.toArray }->IntsAre vs ns->ns.length <= n->s₁.gens = #[] ->
     codeAny (model l.prog w) callerA (.call (.ref fa) ⟨[.ref a],[]⟩) (fun r s'=>r = .ok (.ret (.bool true))/\OldK s₁.heap s'.heap/\s'.os = s₁.os/\AllBare s'.gens) s₁) :
    WalkO q loose XP YP l.row.toRowW d [] (fun f vs=>PySem.call f vs):=by
 intro w s₀ s₁ mg mb G Y fa o pm cd doc dV kV ho hd jN hD K3 hg args vals as BQ acV hrd SM Na;obtain rfl:dV = .none:=Dflts.none hD Lh;obtain rfl:kV = .none:=Dflts.noKw hD;obtain ⟨a,vs,ns,rfl,rfl,Iu,hints,hlen⟩:=yA hn BQ SM;refine enter_call (codeAny_mono (call w s₀ s₁ mg mb fa o pm cd doc a vs ns G Y ho (fd_plain hd) jN K3 Iu hints hlen hg) fun r s' hq=>?_)
 obtain ⟨rfl,h2,h3,h4⟩:=hq;exact ⟨.inl ⟨.bool true,.bool true,[],rfl,fun _=>rfl,.bool true,yJ l _,fun _=>⟨List.Pairwise.nil,fun _ hm=>(nomatch hm)⟩⟩,h2,h3,h4⟩
end Att
namespace L2
open PySem PySem.Spec PyProof.Rows
variable {x qual:Str} {st:Stmt} {f:Addr} {H:Hp}
theorem qj:∀ {vs:List Value} {ns:List Int},IntsAre vs ns->Vals (ns.map V.int) vs
 | _,_,.nil=>.nil
 | _,_,.cons n t h=>.cons ⟨t,rfl⟩ (qj h)
def aq (s:Stmt):Arguments:=match s with
 | .FunctionDef _ a _ _ _ _ _ _ _ _=>a
 | _=>{ posonlyargs:=[],args:=[],vararg:=none,kwonlyargs:=[],kw_defaults:=[],kwarg:=none,defaults:=[] }
def aj (s:Stmt):List Stmt:=match s with
 | .FunctionDef _ _ b _ _ _ _ _ _ _=>b
 | _=>[]
def aa (s:Stmt):Scope:=match s with
 | .FunctionDef _ _ _ _ _ _ sc _ _ _=>sc
 | _=>{ kind:=.function,names:=[],isGenerator:=false,isCoroutine:=false }
abbrev cB:CQ:=fun _ _ _ _ _ _=>False
abbrev E0:XK:=fun _ _ _=>False
theorem Kp {X:Cx}:Passes cB X E0:=fun _ _ _ _ _ _ _ h=>h.elim
structure Fun (K:W.Frag) (x qual:Str) (st:Stmt) (f:Addr) (fd:FuncData):Prop where
 ex:∃ (oc:Value) (od:Option Addr) (kV doc pm:Value) (an:Option Addr) (bA ct:Value) (CK:Array (Option Value)),
  fd = W.fnOf x qual (aq st) (aj st) (aa st) .none kV doc pm an bA ct/\K.lookup f = some ⟨oc,od,.func fd,CK⟩/\W.codeIn K bA qual = true
 kp:W.keepIn K (.ref f) = true
section
variable {P:Program} {w:World} {K:W.Frag} {mg:Str->Option Value} {base:Heap}
theorem Fun.ok {fd : FuncData} {N ps : List Str} {k : Nat} {sp : Sp} (F : Fun K x qual st f fd) (S : ao N ps (aa st)) (len : ∀ vs H Q E, sp vs H Q E -> vs.length = ps.length)
    (fe:∀ (bA:Value) (A:Around) (outer:List Env) (s:Shared) (H:Hp) (vs:List V) (Q:VK) (E:XK),Room k (A.deeper (envOfC qual (aa st) s.heap.objs.size f bA))->sp vs H Q E ->
     ∃ t,PSs (gh cB P w K mg base N qual (aa st) f bA A outer s H E).nox (aj st) t/\t { nx:=fun _ H'=>Q .non H',rt:=Q } (start N vs) H):FnOk P w K mg base cB (k + 1) f fd ps sp:=by
 obtain ⟨oc,od,kV,doc,pm,an,bA,ct,CK,rfl,lk,jN⟩:=F.ex;refine FG lk jN S len fun A outer s H vs Q E hr zF=>?_
 obtain ⟨t,h,q⟩:=fe bA A outer s H vs Q E hr zF;exact ⟨t,h.nox,q⟩
theorem Fun.binds {fd : FuncData} {ps : List Str} (F : Fun K x qual st f fd)
    (h:∀ (kV doc pm:Value) (an:Option Addr) (bA ct:Value) (us:List Value),us.length = ps.length->bindArgs (W.fnOf x qual (aq st) (aj st) (aa st) .none kV doc pm an bA ct) ⟨us,[]⟩ = pure (ps.zip us)):Binds K fd ps []:=by
 obtain ⟨oc,od,kV,doc,pm,an,bA,ct,CK,rfl,lk,jN⟩:=F.ex;exact .all (h kV doc pm an bA ct)
theorem aA {oc : Value} {od an : Option Addr} {CK : Array (Option Value)} {kV doc pm bA ct : Value} (l : K.lookup f = some ⟨oc, od, .func (W.fnOf x qual (aq st) (aj st) (aa st) .none kV doc pm an bA ct), CK⟩)
    (c:W.codeIn K bA qual = true) (k:W.keepIn K (.ref f) = true):Fun K x qual st f (W.fnOf x qual (aq st) (aj st) (aa st) .none kV doc pm an bA ct):=⟨⟨oc,od,kV,doc,pm,an,bA,ct,CK,rfl,l,c⟩,k⟩
end
theorem Fx {A:Around} {k:Nat} (hr:Room k A):A.units + 1 < cLine:=Nat.lt_of_le_of_lt (Nat.add_le_add_left (by decide:1 <= 64) _) hr.units
section
variable {X:Cx}
theorem pv (i : Nat) {pos : Pos} (hN : X.N[i]? = some x := by rfl) (hv : Nq X.env.scope x := by first | exact Or.inl rfl | exact Or.inr (Or.inl rfl) | exact Or.inr (Or.inr rfl)) (hd : (x == ("__debug__" : Str)) = false := by decide)
    (jN:(x == ("__classdict__":Str)) = false:=by decide):PE X (.Name x pos) (pM i):=Hq hN hv hd jN
end
theorem Sx {A B:Prop} (h:B):if false = true then A else B:=by
 rw [if_neg Bool.false_ne_true];exact h
theorem Sw {A B:Prop} (h:A):if true = true then A else B:=by
 rw [if_pos rfl];exact h
theorem KN {c A B:Prop} [Decidable c] (h1:c->A) (h2:¬ c->B):if c then A else B:=by
 by_cases h:c
 ·rw [if_pos h];exact h1 h
 ·rw [if_neg h];exact h2 h
def Same (H H':Hp):Prop:=∀ b o,H b = some o->H' b = some o
theorem Same.refl (H:Hp):Same H H:=fun _ _ h=>h
theorem Same.trans {H1 H2:Hp} (a:Same H H1) (b:Same H1 H2):Same H H2:=fun c o h=>b c o (a c o h)
theorem Same.free {H':Hp} (e:Same H H') {l:Addr} (h:H' l = Option.none):H l = Option.none:=by
 cases q:H l with
 | none=>rfl
 | some o =>
  rw [e l o q] at h
  cases h
theorem Same.seq {K:W.Frag} {H':Hp} {a:Addr} {xs:List V} (e:Same H H') (h:SqL K H a xs):SqL K H' a xs:=by
 rcases h with (h | ⟨o,h⟩) | h
 ·exact .inl (.inl (e _ _ h))
 ·exact .inl (.inr ⟨o,e _ _ h⟩)
 ·exact .inr h
end L2
set_option maxHeartbeats 4000000
namespace L2
open PySem PySem.Spec PyProof.Rows
variable {P:Program} {w:World} {A:Around} {X:Cx} {scope:Scope} {env:Env} {x:Str} {s:Shared} {pos:Pos} {ix:List Nat} {pins:List (Addr × Obj)} {σ:St} {H H':Hp} {C b a:Addr} {fp:List Addr} {n:Nat} {h':Heap} {tt:TT} {te:TE} {v y:V} {o:Option V} {u:Value} {az:List (List Key × V)} {xs:List (List Key × Addr × Value)}
def Jd (x:Str):It:=⟨fun i _=>i < x.cps.size,fun i H v H'=>H' = H/\∃ c,x.cps[i]? = some c/\v = .str ⟨#[c]⟩,fun i _=>i = x.cps.size⟩
theorem nA (hh : A.handled = none) (it : Addr) (x : Str) (t : Tok) {ty : String} (Fy : ty = "str_ascii_iterator" \/ ty = "str_iterator") :
    Walks P w A it [it] [it] x.cps.size (SignAt x) (fun i h=>h.IsStrIter it ty x t i):=by
 rcases Fy with rfl | rfl
 ·exact Walks.strAscii hh it x t
 ·exact Walks.strWide hh it x t
theorem zN {K : W.Frag} {tg : Expr} (x : Str) (t : Tok) (it : Addr) {ty : String} (Fy : ty = "str_ascii_iterator" \/ ty = "str_iterator") :
    Turn P w K tg (Jd x) [it] it (fun i h=>h.IsStrIter it ty x t i) where
 mem:=by simp
 obj:=fun i h st b hb=>by
  have e:b = it:=by simpa using hb
  subst e;obtain ⟨o,e,c,d⟩:=st;exact ⟨o,e,fun v z=>by rw [d] at z;cases z⟩
 keep:=fun i h h' st k=>let ⟨o,e,r⟩:=st;⟨o,k it (by simp) o e,r⟩
 item:=by
  intro X hP hw hK hc i pins s σ H E I hf st hg;subst hP hw hK;obtain ⟨f0,f1,f2,f3,f4,f5⟩:=hf it (by simp);refine (nA (I.ok.hd hc) it x t Fy).item i s _ _ hg st fun v h' tk hv bj kk=>?_
  obtain ⟨c,u,hx,rfl⟩:=hv;have I1:Inv X pins σ H { s with heap:=h',toks:=tk }:=I.turned (fun b o hb e=>kk b o (by simpa using hb) e) f0 f1 f3 f4 f5
  obtain ⟨o,e,cc,d⟩:=id bj;refine ⟨_,rfl,x4 (s:={ s with heap:=h',toks:=tk }) e cc d ?_ ⟨.str ⟨#[c]⟩,H,I1,⟨u,rfl⟩,⟨rfl,c,hx,rfl⟩,bj,fun b hb=>(hf b hb).1⟩⟩
  rcases Fy with rfl | rfl <;> decide
 done:=by
  intro X hP hw hK hc i pins s σ H E I hf st hg;subst hP hw hK;obtain ⟨f0,f1,f2,f3,f4,f5⟩:=hf it (by simp);have hg':i = x.cps.size:=hg;subst hg';exact (nA (I.ok.hd hc) it x t Fy).done s _ _ st fun h' tk kk=>⟨rfl,I.turned (fun b o hb e=>kk b o (by simpa using hb) e) f0 f1 f3 f4 f5⟩
 self:=fun A i s Q E st h=>by
  rcases Fy with rfl | rfl
  ·exact wpAny_pyIter_striter_ascii st h
  ·exact wpAny_pyIter_striter_wide st h
section
variable {tg:Expr}
def Il (tl:TE):TI:=fun σ H R=>tl σ H fun x H1=>∃ z,x = .str z/\R (Jd z) H1
theorem Hn {l:Expr} {tl:TE} (hl:PE X l tl):PI X tg l (Il tl):=by
 intro pins s σ H R I h;refine cp (hl pins s σ H _ I h) fun v s1 ⟨x,H1,I1,r1,q1⟩=>?_
 obtain ⟨z,e,q⟩:=q1;subst e;obtain ⟨t,rfl⟩:=r1;refine wpAny_pyIter_strU ?_;refine ⟨s1.heap.objs.size,[s1.heap.objs.size],_,_,H1,rfl,I1.kept (t':=s1.toks) fun b o e=>Heap.get?_push_of_some _ e,zN z t _ (ty:=strIterType z) (by unfold strIterType;split <;> simp),⟨_,Heap.get?_push_size _ rfl,rfl,rfl⟩,fun b hb=>?_,q⟩
 have e:b = s1.heap.objs.size:=by simpa using hb
 subst e;exact I1.fpOk (Nat.le_refl _) (I1.hok.fresh (Nat.le_refl _))
end
def pick (ix:List Nat) (σ:St):St:=ix.map fun i=>(σ[i]?).join
def lP (scope:Scope) (env:Env):List (Str × Addr):=scope.names.foldl (fun cs y=>if y.2 == .free then (y.1,(env.cells.lookup y.1).getD 0) :: cs else cs) []
theorem vi (env : Env) : ∀ (l : List (Str × NameKind)) (acc : List (Str × Addr)) (p : Str × Addr), p ∈ l.foldl (fun cs y => if y.2 == NameKind.free then (y.1, (env.cells.lookup y.1).getD 0) :: cs else cs) acc ->
    p ∈ acc \/ ((p.1,NameKind.free) ∈ l/\p.2 = (env.cells.lookup p.1).getD 0)
 | [],_,_,h=>.inl h
 | y :: l,acc,p,h=>by
  rw [List.foldl_cons] at h
  rcases vi env l _ p h with h1 | h1
  ·by_cases hy:(y.2 == NameKind.free) = true
   ·rw [if_pos hy] at h1
    rcases List.mem_cons.mp h1 with e | e
    ·refine .inr ⟨?_,by rw [e]⟩;have hk:y.2 = NameKind.free:=by simpa using hy
     rw [e,<- hk];exact List.mem_cons_self
    ·exact .inl e
   ·rw [if_neg hy] at h1;exact .inl h1
  ·exact .inr ⟨List.mem_cons_of_mem _ h1.1,h1.2⟩
theorem vk (env:Env):∀ (l:List (Str × NameKind)) (acc:List (Str × Addr)) (p:Str × Addr),p ∈ acc->p ∈ l.foldl (fun cs y=>if y.2 == NameKind.free then (y.1,(env.cells.lookup y.1).getD 0) :: cs else cs) acc
 | [],_,_,h=>h
 | y :: l,acc,p,h=>by
  rw [List.foldl_cons];apply vk env l
  split
  ·exact List.mem_cons_of_mem _ h
  ·exact h
theorem vj (env:Env):∀ (l:List (Str × NameKind)) (acc:List (Str × Addr)) (x:Str),(x,NameKind.free) ∈ l->∃ c,(x,c) ∈ l.foldl (fun cs y=>if y.2 == NameKind.free then (y.1,(env.cells.lookup y.1).getD 0) :: cs else cs) acc
 | [],_,_,h=>nomatch h
 | y :: l,acc,x,h=>by
  rw [List.foldl_cons]
  rcases List.mem_cons.mp h with e | e
  ·subst e;refine ⟨(env.cells.lookup x).getD 0,vk env l _ _ ?_⟩;rw [if_pos (by rfl)];exact List.mem_cons_self
  ·exact vj env l _ x e
theorem e9 {α:Type}:∀ {l:List (Str × α)} {x:Str} {c:α},(x,c) ∈ l->∃ d,l.lookup x = some d
 | [],_,_,h=>nomatch h
 | (y,d) :: l,x,c,h=>by
  by_cases hx:(x == y) = true
  ·exact ⟨d,by simp [List.lookup_cons,hx]⟩
  ·have Im:(x == y) = false:=by simpa using hx
   rcases List.mem_cons.mp h with e | e
   ·cases e
    simp at hx
   ·obtain ⟨d',e'⟩:=e9 e;exact ⟨d',by simp [List.lookup_cons,Im,e']⟩
theorem ei (hf:∀ y ∈ scope.names,y.2 = .free->∃ c,env.cells.lookup y.1 = some c) {c:Addr} (h:(lP scope env).lookup x = some c):env.cells.lookup x = some c:=by
 rcases vi env scope.names [] (x,c) (PySem.mem_of_lookup h) with e | ⟨e1,e2⟩
 ·exact nomatch e
 ·obtain ⟨d,hd⟩:=hf _ e1 rfl;have BZ:env.cells.lookup x = some d:=hd;have e3:c = (env.cells.lookup x).getD 0:=e2;rw [BZ] at e3 ⊢;rw [e3]
  rfl
theorem qV (h:scope.names.lookup x = some .free):∃ c,(lP scope env).lookup x = some c:=by
 obtain ⟨c,hc⟩:=vj env scope.names [] x (PySem.mem_of_lookup h);exact e9 hc
theorem qc (hf:∀ y ∈ scope.names,y.2 = .free->∃ c,env.cells.lookup y.1 = some c):closureFor scope env = pure (lP scope env):=by
 have all : ∀ (l : List (Str × NameKind)) (acc : List (Str × Addr)), (∀ y ∈ l, y.2 = .free -> ∃ c, env.cells.lookup y.1 = some c) ->
     (forIn l acc fun (x:Str × NameKind) (r:List (Str × Addr))=>if (x.2 == NameKind.free) = true then (do let a <- cellOf env x.1;pure (ForInStep.yield ((x.1,a) :: r))) else pure (ForInStep.yield r):Sem (List (Str × Addr))) =
      pure (l.foldl (fun cs y=>if y.2 == .free then (y.1,(env.cells.lookup y.1).getD 0) :: cs else cs) acc):=by
  intro l
  induction l with
  | nil=>intro acc _;rfl
  | cons y l ih =>
   intro acc h;rw [List.forIn_cons,List.foldl_cons]
   by_cases hy:(y.2 == NameKind.free) = true
   ·obtain ⟨c,hc⟩:=h y List.mem_cons_self (by simpa using hy);rw [if_pos hy,if_pos hy];have e:cellOf env y.1 = pure c:=by unfold cellOf;rw [hc]
    rw [e,hc];exact ih _ fun z hz=>h z (List.mem_cons_of_mem _ hz)
   ·rw [if_neg hy,if_neg hy];exact ih _ fun z hz=>h z (List.mem_cons_of_mem _ hz)
 show ((forIn scope.names [] fun (x:Str × NameKind) (r:List (Str × Addr))=>if (x.2 == NameKind.free) = true then (do let a <- cellOf env x.1;pure (ForInStep.yield ((x.1,a) :: r))) else pure (ForInStep.yield r):Sem (List (Str × Addr))) >>= fun r=>pure r) = _
 rw [all scope.names [] hf]
 rfl
structure LcScope (scope:Scope) (x:Str) (fv:List Str) (osc:Scope):Prop where
 kind:scope.kind = .function
 nocell:∀ y ∈ scope.names,y.2 ≠ .cell
 names:∀ y ∈ scope.names,y.2 = .local->scope.names.lookup y.1 = some .local
 tgt:scope.names.lookup x = some .local
 free:∀ y ∈ scope.names,y.2 = .free->osc.names.lookup y.1 = some .cell \/ osc.names.lookup y.1 = some .free
 fvs:∀ y ∈ fv,scope.names.lookup y = some .free
 nd:(x :: fv).Nodup
theorem kc {scope : Scope} {env : Env} : ∀ {names : List (Str × NameKind)} {x : Str}, names.lookup x = some .free ->
    (names.map fun (n,k)=>if (k == NameKind.free && env.scope.kind == .function && env.kindOf n == some .cell) then (n,NameKind.cell) else (n,k)).lookup x = some .cell \/
    (names.map fun (n,k)=>if (k == NameKind.free && env.scope.kind == .function && env.kindOf n == some .cell) then (n,NameKind.cell) else (n,k)).lookup x = some .free
 | [],_,h=>by simp at h
 | (n,k) :: r,x,h=>by
  have ih:=@kc scope env r x;show List.lookup x ((if (k == NameKind.free && env.scope.kind == .function && env.kindOf n == some .cell) = true then (n,NameKind.cell) else (n,k)) :: _) = _ \/ List.lookup x ((if (k == NameKind.free && env.scope.kind == .function && env.kindOf n == some .cell) = true then (n,NameKind.cell) else (n,k)) :: _) = _
  cases hx:x == n with
  | true =>
   simp only [List.lookup_cons,hx] at h
   cases h
   by_cases hc:(NameKind.free == NameKind.free && env.scope.kind == .function && env.kindOf n == some .cell) = true
   ·rw [if_pos hc];left;simp [List.lookup_cons,hx]
   ·rw [if_neg hc];right;simp [List.lookup_cons,hx]
  | false =>
   simp only [List.lookup_cons,hx] at h
   by_cases hc:(k == NameKind.free && env.scope.kind == .function && env.kindOf n == some .cell) = true
   ·rw [if_pos hc];simp only [List.lookup_cons,hx];exact ih h
   ·rw [if_neg hc];simp only [List.lookup_cons,hx];exact ih h
theorem kg {env : Env} : ∀ {names : List (Str × NameKind)} {x : Str}, (∀ y ∈ names, y.2 ≠ NameKind.cell) ->
    ((names.map fun (n,k)=>if (k == NameKind.free && env.scope.kind == .function && env.kindOf n == some .cell) then (n,NameKind.cell) else (n,k)).lookup x = some .cell \/
    (names.map fun (n,k)=>if (k == NameKind.free && env.scope.kind == .function && env.kindOf n == some .cell) then (n,NameKind.cell) else (n,k)).lookup x = some .free)->names.lookup x = some .free
 | [],_,_,h=>by simp at h
 | (n,k) :: r,x,hn,h=>by
  have ih:=@kg env r x fun y hy=>hn y (List.mem_cons_of_mem _ hy)
  have hk:=hn (n,k) List.mem_cons_self;change List.lookup x ((if (k == NameKind.free && env.scope.kind == .function && env.kindOf n == some .cell) = true then (n,NameKind.cell) else (n,k)) :: _) = _ \/ List.lookup x ((if (k == NameKind.free && env.scope.kind == .function && env.kindOf n == some .cell) = true then (n,NameKind.cell) else (n,k)) :: _) = _ at h
  cases hx:x == n with
  | true =>
   by_cases hc:(k == NameKind.free && env.scope.kind == .function && env.kindOf n == some .cell) = true
   ·have hf:k = NameKind.free:=by
     rw [Bool.and_eq_true,Bool.and_eq_true] at hc;simpa using hc.1.1
    subst hf;simp [List.lookup_cons,hx]
   ·rw [if_neg hc] at h;simp only [List.lookup_cons,hx] at h ⊢
    rcases h with h | h
    ·cases h;exact absurd rfl hk
    ·exact h
  | false =>
   by_cases hc:(k == NameKind.free && env.scope.kind == .function && env.kindOf n == some .cell) = true
   ·rw [if_pos hc] at h;simp only [List.lookup_cons,hx] at h ⊢;exact ih h
   ·rw [if_neg hc] at h;simp only [List.lookup_cons,hx] at h ⊢;exact ih h
def Cx.comp (X:Cx) (scope:Scope) (N':List Str) (C:Addr) (s₀:Shared) (H₀:Hp) (ex:List Addr):Cx where
 prog:=X.prog
 w:=X.w
 K:=X.K
 mg:=X.mg
 base:=X.base
 A:=X.A
 N:=N'
 s₀:=s₀
 H₀:=H₀
 env:=compEnvC scope (lP scope X.env) C X.env
 outer:=X.stack
 stack:=X.stack
 ex:=ex
 fn:=fun _=>false
 calm:=X.calm
 pn:=[]
 xe:=fun _ _=>False
def EM (X:Cx) (ifs:List Expr) (t:TT):Prop :=
 ∀ (pins:List (Addr × Obj)) (s:Shared) (σ:St) (H:Hp) (Q:Bool->Hp->Prop),Inv X pins σ H s->t σ H Q ->
  wpAny (model X.prog X.w) X.A (forIn ifs true fun c r=>if r = true then do let ok <- isTrue c X.env (eval c X.env);pure (ForInStep.yield ok) else pure (ForInStep.yield r)) (TP X pins σ Q) X.xe s
def tH:TT:=fun _ H Q=>Q true H
theorem A8:EM X [] tH:=fun _ _ _ H _ I h=>wpAny_tests_nil ⟨H,I,h⟩
theorem A7 {c:Expr} {t:TT} (h:PT X c t):EM X [c] t:=fun pins s σ H Q I q=>wpAny_tests_one (h pins s σ H Q I q)
def CB (J:It) (ix:List Nat) (σ:St) (tt:TT) (te:TE) (Q:VK) (H1:Hp):Prop:=∃ W:Nat->Nat->List V->Hp->Prop,(∃ m,W 0 m [] H1)/\∀ i m ys H2,W i m ys H2 ->
 (J.stop i H2/\∀ D,H2 D = none->Q (.ref D) (upd H2 D (.lst ys))) \/
 (J.go i H2/\ys.length < sizeLine/\∀ x H3,J.yld i H2 x H3->tt (some x :: pick ix σ) H3 fun b H4=>if b = true then te (some x :: pick ix σ) H4 fun y H5=>∃ m',m' < m/\W (i + 1) m' (ys ++ [y]) H5 else ∃ m',m' < m/\W (i + 1) m' ys H4)
def NM (ix:List Nat) (wi:TI) (tt:TT) (te:TE):TE:=fun σ H Q=>wi σ H fun J H1=>CB J ix σ tt te Q H1
theorem iH {prog : Program} {R : Result -> Shared -> Prop} {elt target iter : Expr} {ifs : List Expr} {it acc : Value} (I : Nat -> Shared -> Prop)
    (turn:∀ n s,I n s->wpAny (model prog w) A (pyNext it) (fun r s₁=>match r with
     | none=>R (.ok .next) s₁
     | some v => wpAny (model prog w) A (letOwnedTupleGo target it v) (fun _ s₁ => wpAny (model prog w) A (assign target env v) (fun _ s₂ =>
         wpAny (model prog w) A (forIn ifs true fun c r=>if r = true then do let ok <- isTrue c env (eval c env);pure (ForInStep.yield ok) else pure (ForInStep.yield r)) (fun ok s₃ =>
          if ok = true then wpAny (model prog w) A (eval elt env) (fun x s₄ =>
           wpAny (model prog w) A (call (.builtin "list.append") [acc,x]) (fun _ s₅=>∃ m,m < n/\I m s₅) (fun _ _=>False) s₄) (fun _ _=>False) s₃
          else ∃ m,m < n/\I m s₃) (fun _ _=>False) s₂) (fun _ _=>False) s₁) (fun _ _=>False) s₁) (fun _ _=>False) s)
    (n:Nat) (h:I n s) :
    codeAny (model prog w) A (.compLoop (.ListComp elt [⟨target,iter,ifs,0⟩] scope pos) 0 it acc env) R s:=by
 refine codeAny_loop rfl I (fun n s hI=>?_) n h;show wpAny _ A ((compTurn (.ListComp elt [⟨target,iter,ifs,0⟩] scope pos) 0 it acc env).onRaise (fun x=>do noteFrame x env;theTreesLotGoes x)) _ _ s;refine wpAny_noted ?_;rw [compTurn_list];refine wpAny_bind (wpAny_standAt (wpAny_bind (wpAny_mono (turn n s hI) (fun r s₁ h₁=>?_) fun _ _ h'=>h'.elim)))
 cases r with
 | none=>exact wpAny_pure h₁
 | some v =>
  refine wpAny_bind (wpAny_mono h₁ (fun _ Xh KQ=>?_) fun _ _ h'=>h'.elim)
  refine wpAny_bind (wpAny_mono KQ (fun _ s₂ h₂=>wpAny_bind (wpAny_mono h₂ (fun ok s₃ h₃=>?_) fun _ _ h'=>h'.elim)) fun _ _ h'=>h'.elim)
  cases ok with
  | false=>exact wpAny_pure ⟨rfl,h₃⟩
  | true =>
   exact wpAny_bind (wpAny_bind (wpAny_mono h₃ (fun x s₄ h₄=>wpAny_bind (wpAny_mono h₄ (fun _ s₅ h₅=>wpAny_pure (wpAny_pure ⟨rfl,h₅⟩)) fun _ _ h'=>h'.elim)) fun _ _ h'=>h'.elim))
section
variable {fv:List Str}
theorem LcScope.cells (S:LcScope scope x fv X.env.scope) (ok:X.Ok):∀ y ∈ scope.names,y.2 = .free->∃ c,X.env.cells.lookup y.1 = some c:=fun y hy hf=>by
 rcases S.free y hy hf with e | e
 ·exact ok.has y.1 (.inl e)
 ·exact ok.has y.1 (.inr e)
theorem EA (S : LcScope scope x fv X.env.scope) (I : Inv X pins σ H s) (hC : s.heap.objs.size <= C) (f2 : ∀ b ∈ fp, FpOk X pins H b) (fl : ∀ b ∈ fp, b < s.heap.objs.size) :
    (X.comp scope (x :: fv) C s H fp).Ok:=by
 have tf:=S.cells I.ok;refine ⟨I.ok.mod,S.kind,I.ok.glob,I.ok.blt,hC,fun y z c h1 h2=>I.ok.inj y z c (ei tf h1) (ei tf h2),fun y hy=>?_,fun y c Lc _=>absurd (show false = true from Lc) (by decide),I.ok.hd,I.ok.frames,.inl rfl,
  fun b hb=>⟨Nat.ne_of_lt (Nat.lt_of_lt_of_le (fl b hb) hC),fun y c h1=>(f2 b hb).2.2.2.2.1 y c (ei tf h1)⟩,I.bs,Nat.le_trans I.ok.bsz I.sz,fun b o e hb=>?_,fun b hb hs=>?_,I.stack,I.stkFree⟩
 ·exact qV (kg S.nocell hy)
 ·rcases (f2 b hb).2.2.2.1 with z | z
  ·exact I.ok.noex b o e z
  ·exact absurd (Nat.lt_of_lt_of_le (Heap.lt_size (I.ok.bs b o e).1) z) (Nat.lt_irrefl _)
 ·rcases List.mem_cons.mp (I.stkSub b hs) with z | z
  ·exact (f2 b hb).2.1 z
  ·exact (f2 b hb).2.2.1 z
end
section
variable {fv:List Str}
def lobj (its:List Value) (n:Nat):Obj:={ cls:=.type "list",data:=.seq its.toArray n }
theorem w5 {D : Addr} {h₁ : Heap} {m : Str -> Option Value} {tk : Nat} (S : LcScope scope x fv X.env.scope) (Jr : ix.map (fun i => X.N[i]?) = fv.map some) (I : Inv X pins σ H s)
    (hD:s.heap.objs.size <= D) (Nk:D ≠ C) (hC:s.heap.objs.size <= C) (f2:∀ b ∈ fp,FpOk X pins H b) (fl:∀ b ∈ fp,b < s.heap.objs.size)
    (M9:h₁.Ns C m) (old:∀ b o,s.heap.get? b = some o->h₁.get? b = some o) (zj:h₁.get? D = some (lobj [] n)) :
    Inv (X.comp scope (x :: fv) C s H fp) [(D,lobj [] n)] (none :: pick ix σ) H { s with heap:=h₁,toks:=tk }:=by
 have tf:=S.cells I.ok;refine ⟨EA S I hC f2 fl,rfl,I.bare,Un.kept old,⟨m,M9,fun i y v h1 h2 h3=>?_⟩,fun y c h1=>?_,I.hok.fresh hC,fun y c h1=>I.freeC y c (ei tf h1),fun p hp=>?_,I.hok.kept old,?_⟩
 ·cases i with
  | zero=>simp at h2
  | succ i =>
   have jO:fv[i]? = some y:=by simpa [Cx.comp] using h1
   have h2':(pick ix σ)[i]? = some (some v):=by simpa using h2
   unfold pick at h2';rw [List.getElem?_map] at h2'
   cases e:ix[i]? with
   | none=>rw [e] at h2';cases h2'
   | some j =>
    rw [e] at h2';have e2:(σ[j]?).join = some v:=by simpa using h2'
    have e3:σ[j]? = some (some v):=by
     cases q:σ[j]? with
     | none=>rw [q] at e2;cases e2
     | some o=>rw [q] at e2;rw [show o = some v from e2]
    have e4:X.N[j]? = some y:=by
     have:=congrArg (fun l=>l[i]?) Jr
     simp only [List.getElem?_map,e,jO,Option.map_some] at this;exact Option.some.inj this
    have SI:=S.fvs y (List.mem_of_getElem? jO);have zd:=S.free (y,.free) (PySem.mem_of_lookup SI) rfl;obtain ⟨m0,X2,Iy⟩:=I.loc;obtain ⟨u,r,lk⟩:=Iy j y v e4 e3 (zd.elim (fun z=>.inr (.inl z)) fun z=>.inr (.inr z))
    refine ⟨u,r,.inr ⟨?_,?_⟩⟩
    ·exact kc (scope:=scope) (env:=X.env) SI
    ·rcases lk with ⟨k,_⟩ | ⟨_,c,hc,qN⟩
     ·rcases zd with z | z
      ·have k':X.env.scope.names.lookup y = some .local:=k;rw [show X.env.scope.names.lookup y = some .cell from z] at k';cases k'
      ·have k':X.env.scope.names.lookup y = some .local:=k;rw [show X.env.scope.names.lookup y = some .free from z] at k';cases k'
     ·obtain ⟨c',zi⟩:=qV (env:=X.env) SI;have e5:=ei tf zi;rw [hc] at e5
      cases e5
      obtain ⟨o,ho,hd⟩:=qN;exact ⟨c,zi,o,old c o ho,hd⟩
 ·obtain ⟨v,o,ho,hd⟩:=I.cell y c (ei tf h1);exact ⟨v,o,old c o ho,hd⟩
 ·have pJ:p = (D,lobj [] n):=by simpa [Cx.comp] using hp
  subst pJ;refine ⟨zj,I.hok.fresh hD,Nk,fun hs=>?_,fun v z=>?_⟩
  ·rcases List.mem_cons.mp (I.stkSub _ hs) with z | z
   ·exact absurd (show D = X.env.locals from z) (Nat.ne_of_gt (Nat.lt_of_lt_of_le I.lt hD))
   ·exact I.nofs hD z
  ·have z':Data.seq _ _ = Data.cell v:=z
   cases z'
 ·show (none :: pick ix σ).length = (x :: fv).length;have:=congrArg List.length Jr;simp only [List.length_map] at this;simp [pick,this]
theorem Cd {σ' : St} {s1 : Shared} {D : Addr} {its : List Value} {ys : List V} (I : Inv X pins σ H s)
    (hD:s.heap.objs.size <= D) (hC:s.heap.objs.size <= C) (f2:∀ b ∈ fp,FpOk X pins H b)
    (I1:Inv (X.comp scope (x :: fv) C s H fp) [(D,lobj its n)] σ' H' s1) (hs:Heap.SameBut C s1.heap h') (rv:Vals ys its) (hz:ys.length <= sizeLine) :
    Inv X pins σ (upd H' D (.lst ys)) { s1 with heap:=h' }/\H' D = none:=by
 obtain ⟨eD,nD,MX,Xx,_⟩:=I1.pin (D,lobj its n) (by simp [Cx.comp]);have Rt:D ≠ C:=MX;have uV:H' C = none:=I1.free;have eD':h'.get? D = some (lobj its n):=(hs.2 D Rt).trans eD;have lt:∀ b o,s.heap.get? b = some o->b ≠ C/\b ≠ D:=fun b o e=>⟨Nat.ne_of_lt (Nat.lt_of_lt_of_le (Heap.lt_size e) hC),Nat.ne_of_lt (Nat.lt_of_lt_of_le (Heap.lt_size e) hD)⟩
 have U:Un (ti X.stack) fp H H' s.heap s1.heap:=I1.base;have Br:∀ b u,H' b = some u->b ≠ D:=fun b u e=>cS e nD
 have U':Un (ti X.stack) fp H (upd H' D (.lst ys)) s.heap h':=by
  refine ⟨fun b o e n hb he=>?_,fun b o e n hb he=>?_,fun b o e n he=>?_,fun b o e he=>?_,fun b xs e=>?_,fun b o u e=>?_,fun b ps e=>?_⟩
  ·exact (hs.2 b (lt b o e).1).trans (U.keep b o e n hb he)
  ·obtain ⟨sl,q⟩:=U.slot b o e n hb he;exact ⟨sl,(hs.2 b (lt b o e).1).trans q⟩
  ·rw [ay (lt b o e).2];exact U.free b o e n he
  ·obtain ⟨o',q⟩:=U.there b o e he;exact ⟨o',(hs.2 b (lt b o e).1).trans q⟩
  ·have:=U.tups b xs e;rw [ay (Br b _ this)];exact this
  ·have:=U.frzs b o u e;rw [ay (Br b _ this)];exact this
  ·obtain ⟨more,this⟩:=U.tbls b ps e;exact ⟨more,by rw [ay (Br b _ this)];exact this⟩
 have hok:HOk X.prog X.w (upd H' D (.lst ys)) h':=fun b u e=>by
  by_cases hb:b = D
  ·subst hb;rw [aC] at e
   cases e
   exact ⟨hz,its,n,rv,eD'⟩
  ·rw [ay hb] at e;refine (I1.hok b u e).stay (fun c v hc q=>(hs.2 c ?_).trans q) (fun c q=>by rw [ay (Br c _ q)];exact q) fun c xs q=>by rw [ay (Br c _ q)];exact q
   rintro rfl
   rcases hc with hc | hc
   ·rw [<- hc,uV] at e;cases e
   ·rw [uV] at hc;cases hc
 exact ⟨I.call' (s':={ s1 with heap:=h' }) (ch:=fp) I1.os U' hok I1.bare fun b hb=>⟨(f2 b hb).2.2.2.1,(f2 b hb).2.1,(f2 b hb).2.2.2.2.1,(f2 b hb).2.2.2.2.2⟩,nD⟩
theorem Kk {elt iter : Expr} {ifs : List Expr} {px : Pos} {wi : TI} {osc : Scope} (hc : X.calm = true) (S₀ : LcScope scope x fv osc) (Jr : ix.map (fun i => X.N[i]?) = fv.map some) (hi : PI X (.Name x px) iter wi)
    (ht:∀ (C:Addr) (s₀:Shared) (H₀:Hp) (ex:List Addr),EM (X.comp scope (x :: fv) C s₀ H₀ ex) ifs tt)
    (he:∀ (C:Addr) (s₀:Shared) (H₀:Hp) (ex:List Addr),PE (X.comp scope (x :: fv) C s₀ H₀ ex) elt te)
    (Iq:X.env.scope = osc:=by rfl) (hs:∀ x,foldedSetIterable iter X.env x = pure x:=by intro _;rfl):PE X (.ListComp elt [⟨.Name x px,iter,ifs,0⟩] scope pos) (NM ix wi tt te):=by
 have S:LcScope scope x fv X.env.scope:=Iq ▸ S₀;intro pins s σ H Q I h;rw [eval_ListComp];refine wpAny_comprehension_free (use:=none) (cl:=lP scope X.env) rfl hs (qc (S.cells I.ok)) S.kind S.names ?_;refine cp (hi pins s σ H _ I h) fun v s1 h1=>cp h1 fun Sv s2 h2=>?_
 obtain ⟨it,fp,tn,J,H2,e,I2,T,Ji,f2,W,⟨m0,w0⟩,turn⟩:=h2;subst e;have fl:∀ b ∈ fp,b < s2.heap.objs.size:=fun b hb=>by obtain ⟨o,e,_⟩:=T.obj _ _ Ji b hb;exact Heap.lt_size e
 refine wpAny_newObj_type (wpAny_newFunctionEnv S.nocell (by intro y hy;simp at hy) (fun h₁ sI oG=>?_) S.kind);dsimp only at sI oG ⊢;generalize TF:s2.heap.push { cls:=.type "list",dict:=none,data:=.seq ([]:List Value).toArray } = pI at sI oG ⊢;have hCe:pI.objs.size = s2.heap.objs.size + 1:=by rw [<- TF,Heap.size_push]
 generalize hCC:pI.objs.size = C at sI oG ⊢;generalize Nj:s2.heap.objs.size = D at *;have Nk:D ≠ C:=by omega
 have hD:s2.heap.objs.size <= D:=by omega
 have hC:s2.heap.objs.size <= C:=by omega
 have XD:∀ b:Nat,b < s2.heap.objs.size->b ≠ C:=fun b hb=>by omega
 have XC:∀ b:Nat,b < s2.heap.objs.size->b ≠ D:=fun b hb=>by omega
 have old:∀ b o,s2.heap.get? b = some o->h₁.get? b = some o:=fun b o e=>oG.extBut b o (XD b (Heap.lt_size e)) (Heap.get?_push_of_some _ (TF ▸ Heap.get?_push_of_some _ e))
 have zj:h₁.get? D = some (lobj [] 0):=oG.extBut _ _ Nk (Heap.get?_push_of_some _ (TF ▸ Nj ▸ Heap.get?_push_size _ rfl));have Gf:tn 0 h₁:=T.keep _ _ _ Ji fun b _ o e=>old b o e
 have I3:Inv (X.comp scope (x :: fv) C s2 H2 fp) [(D,lobj [] 0)] (none :: pick ix σ) H2 { s2 with heap:=h₁,toks:=s2.toks + ([]:List (Str × Value)).length }:=w5 S Jr I2 hD Nk hC f2 (fun b hb=>Nj.symm ▸ fl b hb) sI old zj
 have TR:∀ b ∈ fp,b ≠ D:=fun b hb=>XC b (Nj.symm ▸ fl b hb)
 have tf:=S.cells I2.ok;have vZ:∀ {H':Hp} {its:List Value} {n:Nat},(∀ b ∈ fp,H' b = none)->∀ b ∈ fp,FpOk (X.comp scope (x :: fv) C s2 H2 fp) [(D,lobj its n)] H' b:=fun {H' its n} hn b hb=>by
  obtain ⟨_,g1,g2,g3,g4,g5⟩:=f2 b hb;refine ⟨hn b hb,(XD b (Nj.symm ▸ fl b hb)),fun z=>?_,.inl hb,fun y c h1=>g4 y c (ei tf h1),fun p hp=>?_⟩
  ·rcases List.mem_cons.mp (I2.stkSub b z) with z | z
   ·exact g1 z
   ·exact g2 z
  ·have pJ:p = (D,lobj its n):=by simpa [Cx.comp] using hp
   rw [pJ];exact (TR b hb).symm
 have loop : ∀ s3 : Shared, s3 = { s2 with heap := h₁, toks := s2.toks + ([] : List (Str × Value)).length } ->
     codeAny (model X.prog X.w) X.A (.compLoop (.ListComp elt [⟨.Name x px,iter,ifs,0⟩] scope pos) 0 (.ref it) (.ref D) (compEnvC scope (lP scope X.env) C X.env))
      (compPost (model X.prog X.w) X.A X.xe none (EP X pins σ Q) (.ref D) C) s3:=by
  rintro s3 rfl;refine iH (fun n s'=>∃ i ys its k H' o',Inv (X.comp scope (x :: fv) C s2 H2 fp) [(D,lobj its k)] (o' :: pick ix σ) H' s'/\tn i s'.heap/\(∀ b ∈ fp,H' b = none)/\Vals ys its/\ys.length <= sizeLine/\W i n ys H') ?_ m0
   ⟨0,[],[],0,H2,none,I3,Gf,fun b hb=>(f2 b hb).1,.nil,Nat.zero_le _,w0⟩
  rintro n s4 ⟨i,ys,its,k,H4,o4,I4,Xj,Ym,MS,XN,w4⟩
  rcases turn i n ys H4 w4 with ⟨stop,q⟩ | ⟨go,eQ,step⟩
  ·refine cp (T.done (X.comp scope (x :: fv) C s2 H2 fp) rfl rfl rfl hc i _ s4 _ H4 _ I4 (vZ Ym) Xj stop) fun r s5 ⟨hr,I5⟩=>?_
   subst hr;obtain ⟨m5,S8,_⟩:=id I5.loc;refine ⟨m5,S8,fun h6 hs6=>?_⟩;obtain ⟨I6,nD⟩:=Cd I2 hD hC f2 I5 hs6 MS XN;exact ⟨.ref D,_,I6,rfl,q D nD⟩
  ·refine cp (T.item (X.comp scope (x :: fv) C s2 H2 fp) rfl rfl rfl hc i _ s4 _ H4 _ I4 (vZ Ym) Xj go) fun r s5 ⟨u,hr,h5⟩=>?_
   subst hr;refine cp h5 fun _ s6 ⟨xv,H6,I6,r6,y6,JL,fr6⟩=>?_
   have I6':=I6.pinned (vZ fr6) (T.obj _ _ JL);refine wpAny_assign_Name (j0 (i:=0) I6' S.nd rfl (.inl (lookup_relabel_local S.tgt)) r6 (fun s7 I7=>?_) (.inr (lookup_relabel_local S.tgt)))
   refine cp (ht C s2 H2 fp _ s7 _ H6 _ I7 (step xv H6 y6)) fun b s8 ⟨H8,I8,q8⟩=>?_
   have xQ:∀ {H9:Hp} {σ9:St} {s9:Shared} (I9:Inv (X.comp scope (x :: fv) C s2 H2 fp) ([(D,lobj its k)] ++ il fp s6.heap) σ9 H9 s9),(∀ b ∈ fp,∀ o,s6.heap.get? b = some o->s9.heap.get? b = some o/\H9 b = none):=fun {H9 σ9 s9} I9 b hb o e =>
    ⟨(I9.pin (b,o) (List.mem_append_right _ (List.mem_append_right _ (gB hb e)))).1,(I9.pin (b,o) (List.mem_append_right _ (List.mem_append_right _ (gB hb e)))).2.1⟩
   cases b with
   | false =>
    rw [if_neg Bool.false_ne_true] at q8 ⊢;obtain ⟨m',hm,w8⟩:=q8;refine ⟨m',hm,i + 1,ys,its,k,H8,some xv,I8.unpinned,T.keep _ _ _ JL fun b hb o e=>(xQ I8 b hb o e).1,fun b hb=>?_,MS,XN,w8⟩;obtain ⟨o,e,_⟩:=T.obj _ _ JL b hb;exact (xQ I8 b hb o e).2
   | true =>
    rw [if_pos rfl] at q8 ⊢;refine cp (he C s2 H2 fp _ s8 _ H8 _ I8 q8) fun y s9 ⟨yv,H9,I9,r9,q9⟩=>?_
    obtain ⟨m',hm,w9⟩:=q9;obtain ⟨eD,nD,MX,Xx,_⟩:=I9.pin (D,lobj its k) (by simp [Cx.comp]);have hlen:=MS.length;refine wpAny_list_append_plain (items:=its.toArray) ⟨k,eD⟩ (fun Yf SX K0=>?_) (by rw [List.size_toArray];omega)
    obtain ⟨k',e10⟩:=SX;have J9:Inv (X.comp scope (x :: fv) C s2 H2 fp) (il fp s6.heap) (some xv :: pick ix σ) H9 s9:=I9.pins_of fun p hp=>I9.pin p (List.mem_append_right _ (List.mem_append_right _ hp))
    have J10:Inv (X.comp scope (x :: fv) C s2 H2 fp) (il fp s6.heap) (some xv :: pick ix σ) H9 { s9 with heap:=Yf } :=
     J9.turned (t':=s9.toks) (it:=D) (fun b o hb e=>(K0.2 b hb).trans e) nD MX (.inr hD) (fun y c h1 z=>by
      obtain ⟨_,o,ho,_⟩:=I2.cell y c (ei tf h1);exact XC c (Heap.lt_size ho) z) (fun p hp z=>by
      obtain ⟨hb,_⟩:=qE (show p ∈ il fp s6.heap by simpa [Cx.comp] using hp);exact TR p.1 hb z)
    have UM:Yf.get? D = some (lobj (its ++ [y]) k'):=by
     rw [e10];simp [lobj]
    refine ⟨m',hm,i + 1,ys ++ [yv],its ++ [y],k',H9,some xv,J10.pins_of fun p hp=>?_,T.keep _ _ _ JL fun b hb o e=>(K0.2 b (TR b hb)).trans (xQ I9 b hb o e).1,fun b hb=>?_,MS.append (.cons r9 .nil),?_,w9⟩
    ·have pJ:p = (D,lobj (its ++ [y]) k'):=by simpa using hp
     subst pJ;exact ⟨UM,nD,MX,Xx,fun v z=>by have z':Data.seq _ _ = Data.cell v:=z;cases z'⟩
    ·obtain ⟨o,e,_⟩:=T.obj _ _ JL b hb;exact (xQ I9 b hb o e).2
    ·rw [List.length_append,List.length_singleton];omega
 exact codeAny_compStart_list (loop _ rfl) (T.self _ 0 _ _ _ Gf (loop _ rfl))
end
theorem Ea {J : It} {Q : VK} (item f : Nat -> V) (keep : Nat -> Bool) (hn : n <= sizeLine) (hgo : ∀ i, i < n -> J.go i H) (SH : ∀ i x H', i < n -> J.yld i H x H' -> x = item i /\ H' = H) (KY : J.stop n H)
    (hT:∀ i,i < n->∀ R:Bool->Hp->Prop,R (keep i) H->tt (some (item i) :: pick ix σ) H R) (hE:∀ i,i < n->keep i = true->∀ R:VK,R (f i) H->te (some (item i) :: pick ix σ) H R)
    (hQ:∀ D,H D = none->Q (.ref D) (upd H D (.lst (((List.range n).filter keep).map f)))) :
    CB J ix σ tt te Q H:=by
 refine ⟨fun i m ys H2=>m = n - i/\i <= n/\ys = ((List.range i).filter keep).map f/\H2 = H,⟨n,by simp,Nat.zero_le _,by simp,rfl⟩,?_⟩
 rintro i m ys H2 ⟨rfl,hi,rfl,rfl⟩
 by_cases eQ:i < n
 ·refine .inr ⟨hgo i eQ,?_,?_⟩
  ·rw [List.length_map];have h1:((List.range i).filter keep).length <= (List.range i).length:=List.length_filter_le _ _;rw [List.length_range] at h1;omega
  ·intro x H3 y;obtain ⟨rfl,rfl⟩:=SH i x H3 eQ y;refine hT i eQ _ ?_
   cases hk:keep i with
   | true =>
    rw [if_pos rfl];refine hE i eQ hk _ ⟨n - (i + 1),by omega,rfl,eQ,?_,rfl⟩;rw [List.range_succ,List.filter_append,List.map_append];simp [hk]
   | false =>
    rw [if_neg Bool.false_ne_true];refine ⟨n - (i + 1),by omega,rfl,eQ,?_,rfl⟩;rw [List.range_succ,List.filter_append,List.map_append];simp [hk]
 ·have e:i = n:=by omega
  subst e;exact .inl ⟨KY,hQ⟩
theorem wm {α β:Type} (xs:List α) (d:α) (p:α->Bool) (f:α->β):((List.range xs.length).filter fun i=>p (xs.getD i d)).map (fun i=>f (xs.getD i d)) = (xs.filter p).map f:=by
 have e:(List.range xs.length).map (fun i=>xs.getD i d) = xs:=by
  apply List.ext_getElem
  ·simp
  ·intro i h1 h2;simp [List.getD_eq_getElem?_getD,List.getElem?_eq_getElem h2]
 have e2:((List.range xs.length).filter fun i=>p (xs.getD i d)).map (fun i=>xs.getD i d) = xs.filter p:=by
  have:=List.filter_map (f:=fun i=>xs.getD i d) (p:=p) (l:=List.range xs.length)
  rw [e] at this;exact this.symm
 rw [<- e2,List.map_map]
 rfl
section
variable {Q:VK}
theorem HY {z : Str} (f : Nat -> V) (keep : Nat -> Bool) (hz : z.cps.size <= sizeLine)
    (hT:∀ c ∈ z.cps.toList,∀ R:Bool->Hp->Prop,R (keep c) H->tt (some (.str ⟨#[c]⟩) :: pick ix σ) H R) (hE:∀ c ∈ z.cps.toList,keep c = true->∀ R:VK,R (f c) H->te (some (.str ⟨#[c]⟩) :: pick ix σ) H R)
    (hQ:∀ D,H D = none->Q (.ref D) (upd H D (.lst ((z.cps.toList.filter keep).map f)))) :
    CB (Jd z) ix σ tt te Q H:=by
 have uR:∀ i,i < z.cps.size->z.cps.toList.getD i 0 ∈ z.cps.toList:=fun i hi=>by
  have h2:i < z.cps.toList.length:=by simpa using hi
  rw [List.getD_eq_getElem?_getD,List.getElem?_eq_getElem h2];exact List.getElem_mem h2
 refine Ea (J:=Jd z) (n:=z.cps.size) (fun i=>.str ⟨#[z.cps.toList.getD i 0]⟩) (fun i=>f (z.cps.toList.getD i 0)) (fun i=>keep (z.cps.toList.getD i 0)) hz (fun i hi=>hi) (fun i x H' hi y=>?_) rfl (fun i hi R h=>hT _ (uR i hi) R h) (fun i hi hk R h=>hE _ (uR i hi) hk R h) ?_
 ·obtain ⟨rfl,c,hc,rfl⟩:=y;refine ⟨?_,rfl⟩;have zi:z.cps.toList[i]? = some c:=by simpa using hc
  rw [List.getD_eq_getElem?_getD,zi]
  rfl
 ·have e:=wm z.cps.toList 0 keep f;have e2:z.cps.toList.length = z.cps.size:=by simp
  rw [e2] at e;rw [e];exact hQ
end
section
variable {a b:Expr} {ta tb:TE}
theorem Bk:OpR X (compareOp .Is) (fun x y H Q=>∃ i j,x = .bl i/\y = .bl j/\Q (.bl (i == j)) H):=by
 intro pins s σ H x y v u Q I rx ry h;obtain ⟨i,j,rfl,rfl,q⟩:=h
 cases rx
 cases ry
 exact is_bool ⟨.bl (i == j),H,I,rfl,q⟩
theorem yR:OpR X (compareOp .LtE) (fun x y H Q=>∃ i j,x = .str i/\y = .str j/\Q (.bl (!decide (j.cps.toList < i.cps.toList))) H):=by
 intro pins s σ H x y v u Q I rx ry h;obtain ⟨i,j,rfl,rfl,q⟩:=h;obtain ⟨t,rfl⟩:=rx;obtain ⟨t',rfl⟩:=ry;exact PySem.P.le_str (sM I q rfl)
theorem wx:OpR X (binaryOp .Mult) (fun x y H Q=>∃ z n,x = .str z/\y = .int n/\MulOk z n/\Q (.str (Txt.mul z n)) H):=by
 intro pins s σ H x y v u Q I rx ry h;obtain ⟨z,n,rfl,rfl,hm,q⟩:=h;obtain ⟨t,rfl⟩:=rx;obtain ⟨t',rfl⟩:=ry;exact SB.mul hm fun t' k=>⟨.str (Txt.mul z n),H,I.tok _,⟨_,rfl⟩,q⟩
def JY:V->Option Int->Option Int->Hp->VK->Prop:=fun x lo hi H Q=>∃ z,x = .str z/\z.length <= sizeLine/\Q (.str (Txt.slice z lo hi)) H
theorem ue {v:Value} {o:Option Int} (p:IsPart v o):∃ l:Option (Int × Tok),v = partValue l/\l.map (·.1) = o:=by
 cases p with
 | none=>exact ⟨none,rfl,rfl⟩
 | int i t=>exact ⟨some (i,t),rfl,rfl⟩
theorem Gj:SlR X JY:=by
 intro pins s σ H x v vl vu lo hi sl Q I rx hs pl pu h;obtain ⟨z,rfl,hz,q⟩:=h;obtain ⟨t,rfl⟩:=rx;obtain ⟨l,rfl,el⟩:=ue pl;obtain ⟨u,rfl,eu⟩:=ue pu;subst el eu;refine ⟨"str",_,F.slot_str_getitem.lookup,typeIs_str _ _ _,wpAny_getItem_str_slice (l:=l) (u:=u) (st:=none) hs rfl ?_⟩;exact post_val_or_str ⟨Nat.le_trans (Txt.slice_le z _ _) hz,fun t' k=>⟨.str (Txt.slice z (l.map (·.1)) (u.map (·.1))),H,I.tok _,⟨_,rfl⟩,q⟩⟩
theorem vn:∀ {bs:List Bool} {us:List Value},Vals (bs.map V.bl) us->LSm.BoolsAre us bs
 | [],_,r=>by rw [List.map_nil] at r;cases r;exact .nil
 | b :: bs,_,r=>by
  rw [List.map_cons] at r
  cases r with
  | cons r1 r2 =>
   cases (show _ = Value.bool b from r1)
   exact .cons b (vn r2)
theorem Cn (hc:X.calm = true):cF X (.builtin "all") (fun xs H Q=>∃ (p:Addr) (bs:List Bool),xs = [.ref p]/\SqL X.K H p (bs.map V.bl)/\Q (.bl (bs.all id)) H):=by
 intro pins s σ H xs us Q I r h;obtain ⟨p,bs,rfl,hp,q⟩:=h;obtain ⟨u,rfl,ru⟩:=vals1 r
 cases ru
 obtain ⟨its,rv,pl,hz⟩:=I.list hp;have hb:=vn rv;have hl:=pl.isList;have eQ:p < s.heap.objs.size:=by obtain ⟨_,e,_⟩:=hl;exact Heap.lt_size e
 have hh:X.A.handled = none:=I.ok.hd hc;refine call_all_walk (wpAny_pyIter_list hl ?_);refine ⟨s.heap.objs.size,[s.heap.objs.size,p],[s.heap.objs.size],its.toArray.size,_,_,fun i=>(bs[i]?).getD true,rfl,Walks.list (A:=X.A.in1) hh _ p (Nat.ne_of_lt eQ) its.toArray,
  ⟨⟨_,Heap.get?_push_size _ rfl,rfl,rfl⟩,hl.push _⟩,fun i v s' Q' E' hP hQ=>?_,fun h' tk hk=>?_⟩
 ·obtain ⟨b,e,rfl⟩:=hb.get i v (by simpa using hP);simp only [e,Option.getD_some] at hQ;exact wpAny_truthy_bool hQ
 ·have e:((List.range its.toArray.size).all fun i=>(bs[i]?).getD true) = bs.all id:=by
   rw [List.size_toArray,hb.length];exact LSm.range_all bs
  rw [e];exact ⟨.bl (bs.all id),H,I.kept (LSm.kept_iter hk),rfl,q⟩
theorem vm:cF X (.builtin "isinstance") (fun xs H Q=>∃ x T t b,xs = [x,.ty T]/\TyOf X.K H x t/\W.kitOne X.K t (.type T) = some b/\Q (.bl b) H):=by
 intro pins s σ H xs us Q I r h;obtain ⟨x,T,t,b,rfl,ty,hk,q⟩:=h;obtain ⟨u,w',rfl,ru,AD⟩:=vals2 r
 cases (show w' = Value.type T from AD)
 exact zb I ru ty hk fun tk=>⟨.bl b,H,I.tok tk,rfl,q⟩
end
structure Fn (K:W.Frag) (mg:Str->Option Value) (x:Str) (st:Stmt) (ps:List Str) (f:Addr) (fd:FuncData):Prop where
 fu:Fun K x x st f fd
 mgx:mg x = some (.ref f)
 bd:Binds K fd ps []
def HasFn (K:W.Frag) (mg:Str->Option Value) (x:Str) (st:Stmt) (ps:List Str):Prop:=∃ f fd,Fn K mg x st ps f fd
section
variable {st:Stmt} {ps:List Str} {f:Addr} {fd:FuncData} {k:Nat} {sp:Sp} {e:Expr} {es:List Expr} {t:TA} {p:Pos}
theorem Kn (N : Fn X.K X.mg x st ps f fd) (G : FnOk X.prog X.w X.K X.mg X.base cB k f fd ps sp) (hr : Room k X.A) (ha : PA X (e :: es) t) (hg : Gl X x := by rfl)
    (sJ:(x == ("__debug__":Str)) = false:=by decide) (he:starEach (e :: es) X.env = (false,eval e X.env) :: starEach es X.env:=by rfl) (sE:(backTo pos (starEach es X.env)).any (·.1) = false:=by rfl) :
    PE X (.Call (.Name x p) (e :: es) [] pos) (nI sp [] E0 t):=DT G hr hg N.mgx N.fu.kp N.bd .nil Kp ha sJ he sE
theorem Km (h:∃ u,X.mg x = some u/\RelV v u) (hg:Gl X x:=by rfl) (hd:(x == ("__debug__":Str)) = false:=by decide):PE X (.Name x pos) (tC v):=by
 obtain ⟨u,h1,h2⟩:=h;exact DQ hg h1 h2 hd
theorem Kh {T:String} (hm:X.mg x = none) (hv:bootBuiltins x = some (.type T)) (hg:Gl X x:=by rfl) (hn:x ≠ "__name__":=by decide) (hd:(x == ("__debug__":Str)) = false:=by decide):PE X (.Name x pos) (tC (.ty T)) :=
 DU hg hm hv rfl hn hd
end
def dU (c:Nat):Bool:=decide (32 <= c/\c <= 126)
def gA (z:Str) (lo hi:Int):Bool:=decide (lo <= z.length/\(z.length:Int) <= hi) && z.cps.toList.all dU
theorem wA (c d:Nat):decide (([c]:List Nat) < [d]) = decide (c < d):=by
 apply decide_eq_decide.mpr
 constructor
 ·intro h
  cases h with
  | rel h=>exact h
  | cons h=>cases h
 ·intro h;exact .rel h
def NotStr (K:W.Frag) (H:Hp) (v:V):Prop:=∃ t,TyOf K H v t/\W.kitOne K t (.type "str") = some false
section
variable {κ:Type} [DecidableEq κ]
def jw (az:List (κ × V)) (k:κ):Option V:=(az.find? fun kv=>decide (kv.1 = k)).map (·.2)
def putK (az:List (κ × V)) (k:κ) (v:V):List (κ × V) :=
 if (az.any fun kv=>decide (kv.1 = k)) = true then az.map (fun kv=>if kv.1 = k then (kv.1,v) else kv) else az ++ [(k,v)]
def FK (az:List (κ × V)) (k:κ):List (κ × V):=az.filter fun kv=>decide (kv.1 ≠ k)
theorem nB {p:κ × V} {r:List (κ × V)} {k:κ} (e:p.1 = k):jw (p :: r) k = some p.2:=by simp [jw,List.find?_cons,e]
theorem nC {p:κ × V} {r:List (κ × V)} {k:κ} (e:¬ p.1 = k):jw (p :: r) k = jw r k:=by simp [jw,List.find?_cons,e]
theorem tu (k:κ):∀ az:List (κ × V),(az.any fun kv=>decide (kv.1 = k)) = (jw az k).isSome
 | []=>rfl
 | p :: r=>by
  rw [List.any_cons]
  by_cases e:p.1 = k
  ·simp only [nB e,decide_eq_true e,Bool.true_or,Option.isSome_some]
  ·rw [nC e,decide_eq_false e,Bool.false_or];exact tu k r
theorem iC (az:List (κ × V)) (k:κ) (v:V):(putK az k v).length <= az.length + 1:=by
 unfold putK
 split
 ·rw [List.length_map];omega
 ·rw [List.length_append,List.length_cons,List.length_nil];omega
theorem RelO.isSome_eq {u:Option Value} (r:RelO o u):o.isSome = u.isSome:=by
 cases o with
 | none=>cases u with
  | none=>rfl
  | some _=>exact (show False from r).elim
 | some _=>cases u with
  | none=>exact (show False from r).elim
  | some _=>rfl
theorem RelO.getD {u:Option Value} {d:V} {d':Value} (r:RelO o u) (rd:RelV d d'):RelV (o.getD d) (u.getD d'):=by
 cases o with
 | none=>cases u with
  | none=>exact rd
  | some _=>exact (show False from r).elim
 | some _=>cases u with
  | none=>exact (show False from r).elim
  | some _=>exact r
theorem KV.val {az:List (κ × V)} {vs:List (κ × Value)} (r:KV az vs) (k:κ):RelO (jw az k) (valueAt vs k):=by
 unfold KV at r
 induction r with
 | nil=>exact True.intro
 | @cons p q ps qs h t ih =>
  obtain ⟨h1,h2⟩:=h
  by_cases e:p.1 = k
  ·have e':q.1 = k:=h1.symm.trans e;have b:valueAt (q :: qs) k = some q.2:=by simp [valueAt,List.find?_cons,e']
   rw [nB e,b];exact h2
  ·have e':¬ q.1 = k:=fun z=>e (h1.trans z)
   have b:valueAt (q :: qs) k = valueAt qs k:=by simp [valueAt,List.find?_cons,e']
   rw [nC e,b];exact ih
theorem KV.any {az:List (κ × V)} {vs:List (κ × Value)} (r:KV az vs) (k:κ):(az.any fun kv=>decide (kv.1 = k)) = vs.any fun kv=>decide (kv.1 = k):=by
 unfold KV at r
 induction r with
 | nil=>rfl
 | cons h t ih=>rw [List.any_cons,List.any_cons,ih,h.1]
theorem KV.repl {az : List (κ × V)} {vs : List (κ × Value)} (r : KV az vs) (k : κ) (ry : RelV y u) :
    KV (az.map fun kv=>if kv.1 = k then (kv.1,y) else kv) (vs.map fun kv=>if kv.1 = k then (kv.1,u) else kv):=by
 unfold KV at r ⊢
 induction r with
 | nil=>exact .nil
 | @cons p q ps qs h t ih =>
  rw [List.map_cons,List.map_cons];refine .cons ?_ ih;obtain ⟨h1,h2⟩:=h
  by_cases e:p.1 = k
  ·rw [if_pos e,if_pos (h1.symm.trans e)];exact ⟨h1,ry⟩
  ·rw [if_neg e,if_neg (fun z=>e (h1.trans z))];exact ⟨h1,h2⟩
theorem KV.put {az:List (κ × V)} {vs:List (κ × Value)} (r:KV az vs) (k:κ) (ry:RelV y u):KV (putK az k y) (stored vs k u):=by
 unfold putK stored;rw [r.any k]
 by_cases e:(vs.any fun kv=>decide (kv.1 = k)) = true
 ·rw [if_pos e,if_pos e];exact r.repl k ry
 ·rw [if_neg e,if_neg e];exact Paired.snoc r ⟨rfl,ry⟩
theorem KV.drop {az:List (κ × V)} {vs:List (κ × Value)} (r:KV az vs) (k:κ):KV (FK az k) (without vs k):=by
 unfold KV at r ⊢;unfold FK without
 induction r with
 | nil=>exact .nil
 | @cons p q ps qs h t ih =>
  obtain ⟨h1,h2⟩:=h;rw [List.filter_cons,List.filter_cons]
  by_cases e:p.1 = k
  ·have a:¬ decide (p.1 ≠ k) = true:=by simp [e]
   have b:¬ decide (q.1 ≠ k) = true:=by simp [h1.symm.trans e]
   rw [if_neg a,if_neg b];exact ih
  ·have e':¬ q.1 = k:=fun z=>e (h1.trans z)
   have a:decide (p.1 ≠ k) = true:=by simp [e]
   have b:decide (q.1 ≠ k) = true:=by simp [e']
   rw [if_pos a,if_pos b];exact .cons ⟨h1,h2⟩ ih
theorem KV.keys {az:List (κ × V)} {vs:List (κ × Value)} (r:KV az vs):az.map (·.1) = vs.map (·.1):=by
 unfold KV at r
 induction r with
 | nil=>rfl
 | cons h t ih=>rw [List.map_cons,List.map_cons,ih,h.1]
theorem KV.length {az:List (κ × V)} {vs:List (κ × Value)} (r:KV az vs):az.length = vs.length:=Paired.length r
end
theorem BD {k:Key} (r:RelV (kV k) u):(cI P w).is k u = true:=by
 cases k with
 | inl i=>obtain ⟨t,e⟩:=(show ∃ t,u = Value.int i t from r);subst e;exact uB P w i t
 | inr x=>obtain ⟨t,e⟩:=(show ∃ t,u = Value.str x t from r);subst e;exact uA P w x t
theorem items_are {P:Program} {w:World}:∀ {ks:List Key} {us:List Value},Vals (ks.map kV) us->ItemsAre (cI P w) ks us
 | [],_,r=>by rw [List.map_nil] at r;cases r;exact .nil
 | k :: ks,_,r=>by
  rw [List.map_cons] at r
  cases r with
  | cons h t=>exact .cons (BD h) (items_are t)
abbrev KT (H:Hp):List (List Key × V)->List (List Key × Addr × Value)->Prop:=Paired fun p q=>p.1 = q.1/\H q.2.1 = some (.tup (p.1.map kV))/\RelV p.2 q.2.2
theorem KT.val (r:KT H az xs) (k:List Key):RelO (jw az k) ((atKey xs k).map (·.2)):=by
 induction r with
 | nil=>exact True.intro
 | @cons p q ps qs h t ih =>
  obtain ⟨h1,_,h2⟩:=h
  by_cases e:p.1 = k
  ·have e':q.1 = k:=h1.symm.trans e;have b:atKey (q :: qs) k = some q.2:=by simp [atKey,List.find?_cons,e']
   rw [nB e,b];exact h2
  ·have e':¬ q.1 = k:=fun z=>e (h1.trans z)
   have b:atKey (q :: qs) k = atKey qs k:=by simp [atKey,List.find?_cons,e']
   rw [nC e,b];exact ih
theorem KT.repl (r : KT H az xs) (k : List Key) (ry : RelV y u) :
    KT H (az.map fun kv=>if kv.1 = k then (kv.1,y) else kv) (xs.map (putAt k u)):=by
 induction r with
 | nil=>exact .nil
 | @cons p q ps qs h t ih =>
  rw [List.map_cons,List.map_cons];refine .cons ?_ ih;obtain ⟨h1,h2,h3⟩:=h;unfold putAt
  by_cases e:p.1 = k
  ·rw [if_pos e,if_pos (h1.symm.trans e)];exact ⟨h1,h2,ry⟩
  ·rw [if_neg e,if_neg (fun z=>e (h1.trans z))];exact ⟨h1,h2,h3⟩
theorem KT.put (r : KT H az xs) (k : List Key) (hb : H b = some (.tup (k.map kV))) (ry : RelV y u) :
    KT H (putK az k y) (storedH xs k b u):=by
 have e:(az.any fun kv=>decide (kv.1 = k)) = (atKey xs k).isSome:=by
  rw [tu,(r.val k).isSome_eq,Option.isSome_map]
 unfold putK storedH;rw [e]
 by_cases q:(atKey xs k).isSome = true
 ·rw [if_pos q,if_pos q];exact r.repl k ry
 ·rw [if_neg q,if_neg q];exact Paired.snoc r ⟨rfl,hb,ry⟩
theorem KT.keeps (r:KT H az xs) (ht:∀ b ys,H b = some (.tup ys)->H' b = some (.tup ys)):KT H' az xs :=
 Paired.mapP r fun _ _ z=>⟨z.1,ht _ _ z.2.1,z.2.2⟩
section
variable {h:Heap}
theorem E9 {u:HO} (ok:HOk P w H h) (e:Rd H a u):ObjOk P w H h a u:=e.ok ok
theorem Cc {az:List (Key × V)} (ok:HOk P w H h) (e:Rd H a (.dK az)):az.length <= sizeLine/\(a == sysModules) = false/\∃ vs,KV az vs/\h.DictOf (cI P w) a vs :=
 show ObjOk P w H h a (.dK az) from E9 ok e
theorem LC {az:List (Key × V)} (ok:HOk P w H h) (e:H a = some (.dK az)):az.length <= sizeLine/\(a == sysModules) = false/\∃ vs,KV az vs/\h.DictOf (cI P w) a vs:=Cc ok (.inl e)
theorem wR {ks:List Key} (ok:HOk P w H h) (e:H a = some (.tup (ks.map kV))):(tupleKind (cI P w)).is h ks a:=by
 obtain ⟨_,its,r,o,h1,h2,n,h3⟩:=(show ObjOk P w H h a (.tup (ks.map kV)) from ok a _ e);exact ⟨o,its.toArray,n,h1,h2,h3,by simpa using items_are r⟩
theorem B' (ok : HOk P w H h) (e : Rd H a (.dT az)) : az.length <= sizeLine /\ (a == sysModules) = false /\
    ∃ xs,KT H az xs/\h.DictOfH (tupleKind (cI P w)) a xs:=by
 obtain ⟨z,y,xs,r,o,es,ep,h1,h2,h3,h4,h5⟩:=(show ObjOk P w H h a (.dT az) from E9 ok e);refine ⟨z,y,xs,r,o,es,ep,h1,h2,h3,h4,fun x hx=>?_,h5⟩
 have all:∀ {l:List (List Key × V)} {m:List (List Key × Addr × Value)},KT H l m->∀ x ∈ m,(tupleKind (cI P w)).is h x.1 x.2.1:=by
  intro l m q
  induction q with
  | nil=>intro x hx;exact nomatch hx
  | @cons p q ps qs hq t ih =>
   intro x hx
   rcases List.mem_cons.mp hx with e | hx
   ·subst e;exact wR ok (by rw [<- hq.1];exact hq.2.1)
   ·exact ih x hx
 exact all r x hx
theorem FJ (ok : HOk P w H h) (e : H a = some (.dT az)) : az.length <= sizeLine /\ (a == sysModules) = false /\
    ∃ xs,KT H az xs/\h.DictOfH (tupleKind (cI P w)) a xs:=B' ok (.inl e)
end
def DGet (H:Hp) (a:Addr) (y:V) (r:Option V):Prop :=
 (∃ az k,Rd H a (.dK az)/\y = kV k/\r = jw az k) \/ ∃ az k b,Rd H a (.dT az)/\y = .ref b/\H b = some (.tup (k.map kV))/\r = jw az k
def DPut (H:Hp) (a:Addr) (y v:V) (H':Hp):Prop :=
 (∃ az k,H a = some (.dK az)/\y = kV k/\az.length < sizeLine/\H' = upd H a (.dK (putK az k v))) \/
 ∃ az k b,H a = some (.dT az)/\y = .ref b/\H b = some (.tup (k.map kV))/\az.length < sizeLine/\H' = upd H a (.dT (putK az k v))
theorem DGet.k {az:List (Key × V)} {k:Key} (e:H a = some (.dK az)):DGet H a (kV k) (jw az k):=.inl ⟨az,k,.inl e,rfl,rfl⟩
theorem DGet.t {k:List Key} (e:H a = some (.dT az)) (eb:H b = some (.tup (k.map kV))):DGet H a (.ref b) (jw az k):=.inr ⟨az,k,b,.inl e,rfl,eb,rfl⟩
theorem DPut.k {az:List (Key × V)} {k:Key} (e:H a = some (.dK az)) (hl:az.length < sizeLine):DPut H a (kV k) v (upd H a (.dK (putK az k v))):=.inl ⟨az,k,e,rfl,hl,rfl⟩
theorem DPut.t {k : List Key} (e : H a = some (.dT az)) (eb : H b = some (.tup (k.map kV))) (hl : az.length < sizeLine) :
    DPut H a (.ref b) v (upd H a (.dT (putK az k v))):=.inr ⟨az,k,b,e,rfl,eb,hl,rfl⟩
section
variable {r:Value} {E:Value->Shared->Prop}
theorem Inv.big (I:Inv X pins σ H s):sysModules < s.heap.objs.size:=by
 have h:mainGlobals < s.heap.objs.size:=(I.mod.glob.keeps I.bk).lt;exact Nat.lt_trans (by decide) h
theorem zr {Q : Value -> Shared -> Prop} (hu : A.units + 1 < cLine) (I : Inv X pins σ H s) (g : DGet H a y (some v)) (ry : RelV y u) (h : ∀ w' s', Inv X pins σ H s' -> RelV v w' -> Q w' s') :
    wpAny (model X.prog X.w) A (getItem (.ref a) u) Q E s:=by
 rcases g with ⟨az,k,e,ey,l⟩ | ⟨az,k,b,e,ey,eb,l⟩
 ·subst ey;obtain ⟨z,hd,vs,rel,dd⟩:=Cc I.hok e;obtain ⟨w',hw,AD⟩:=RelO.some_of (v:=v) (o:=valueAt vs k) (by rw [l];exact rel.val k);exact wpAny_getItem_of (BD ry) dd.mapOf hw (h w' _ (I.tok _) AD)
 ·subst ey
  cases (show u = Value.ref b from ry)
  obtain ⟨z,hd,xs,rel,dd⟩:=B' I.hok e;obtain ⟨w',hw,AD⟩:=RelO.some_of (v:=v) (o:=(atKey xs k).map (·.2)) (by rw [l];exact rel.val k);obtain ⟨p,hp,pI⟩:=Option.map_eq_some_iff.mp hw;refine wpAny_getItem_heap (tupleKind_room_in1 hu) (wR I.hok eb) dd hp ?_;rw [pI];exact h w' _ (I.tok _) AD
theorem x9 {t' : Nat} {ob : HO} (I : Inv X pins σ H s) (mu : ME (H a)) (hs : Heap.SameBut a s.heap h') (he : ∃ q, h'.get? a = some q) (new : ObjOk X.prog X.w (upd H a ob) h' a ob) :
    Inv X pins σ (upd H a ob) { s with heap:=h',toks:=t' } :=
 I.write (x:=a) (e:=a) mu (.inl rfl) (fun b q hb z=>(hs.2 b hb).trans z) he new
theorem IK {az : List (Key × V)} {vs : List (Key × Value)} (z : az.length <= sizeLine) (hd : (a == sysModules) = false) (rel : KV az vs) (dd : h'.DictOf (cI P w) a vs) :
    ObjOk P w H' h' a (.dK az):=⟨z,hd,vs,rel,dd⟩
theorem zq {Q : Unit -> Shared -> Prop} (hu : A.units + 1 < cLine) (I : Inv X pins σ H s) (g : DPut H a y v H') (ry : RelV y u) (rv : RelV v r) (h : ∀ s', Inv X pins σ H' s' -> Q () s') :
    wpAny (model X.prog X.w) A (setItem (.ref a) u r) Q E s:=by
 rcases g with ⟨az,k,e,ey,l,eH⟩ | ⟨az,k,b,e,ey,eb,l,eH⟩
 ·subst ey eH;obtain ⟨z,hd,vs,rel,dd⟩:=LC I.hok e;have hz:vs.length <= sizeLine:=by rw [<- rel.length];exact z
  have hl:(putK az k v).length <= sizeLine:=by have:=iC az k v;omega
  refine wpAny_setItem_pairs (hsz:=hz) (BD ry) dd fun h' Nm hs=>h _ ?_
  have he:∃ q,h'.get? a = some q:=let ⟨q,_,_,hq,_⟩:=Nm;⟨q,hq⟩
  exact x9 I (by rw [e];exact True.intro) hs he (IK hl hd (rel.put k rv) Nm)
 ·subst ey eH
  cases (show u = Value.ref b from ry)
  obtain ⟨z,hd,xs,rel,dd⟩:=FJ I.hok e;have hz:xs.length <= sizeLine:=by rw [<- Paired.length rel];exact z
  have hl:(putK az k v).length <= sizeLine:=by have:=iC az k v;omega
  refine wpAny_setItem_heap (hsz:=hz) (tupleKind_room_in1 hu) (wR I.hok eb) dd fun h' Nm hs=>h _ ?_
  obtain ⟨q,es,ep,hq,h2,h3,h4,_,h5⟩:=Nm;refine x9 I (by rw [e];exact True.intro) hs ⟨q,hq⟩ ⟨hl,hd,_,(rel.put k eb rv).keeps fun c ys ec=>?_,q,es,ep,hq,h2,h3,h4,h5⟩
  rw [ay (Kv ec e (fun z=>nomatch z))];exact ec
end
def Jb (i:Expr):Prop:=∀ ov iv,subscripted i false ov iv = operate [ov,iv] (getItem ov iv)
theorem C5 {prog : Program} {E : Value -> Shared -> Prop} {value slice : Expr} {T id : String} {Q : Value -> Shared -> Prop}
    (hl:typeLookup (.type T) "__getitem__" = pure (some (.builtin id))) (hs:Jb slice)
    (h:wpAny (model prog w) A (eval value env) (fun o s₁=>wpAny (model prog w) A (eval slice env) (fun i s₂=>s₂.TypeIs o T/\wpAny (model prog w) A (getItem o i) Q E s₂) E s₁) E s) :
    wpAny (model prog w) A (eval (.Subscript value slice pos) env) Q E s:=by
 refine Subscript_ (wpAny_mono h (fun o s₁ h₁=>wpAny_mono h₁ (fun i s₂ h₂=>?_) fun _ _ x=>x) fun _ _ x=>x)
 obtain ⟨hT,h₂⟩:=h₂;unfold subscriptTail;refine wpAny_bind ?_;rw [getitemInPython_of_ne hT.not_modules];refine wpAny_bind (wpAny_specialOf hT hl ?_);have fin:wpAny (model prog w) A (subscripted slice false o i) (fun r s₃=>wpAny (model prog w) A (letTemporaryGo value o r >>= fun _=>pure r) Q E s₃) E s₂:=by
  rw [hs o i];exact wpAny_operating (wpAny_mono h₂ (fun r s₃ h₃=>wpAny_bind (wpAny_letTemporaryGo (wpAny_pure h₃))) fun _ _ x=>x)
 first
  | exact wpAny_pure (wpAny_bind fin)
  | exact wpAny_bind (wpAny_pure (wpAny_bind fin))
  | exact wpAny_bind fin
theorem vg (I:Inv X pins σ H s) (g:DGet H a y o):s.TypeIs (.ref a) "dict":=by
 rcases g with ⟨az,k,e,_,_⟩ | ⟨az,k,b,e,_,_,_⟩
 ·obtain ⟨_,_,vs,_,dd⟩:=Cc I.hok e;exact dd.typeIs
 ·obtain ⟨_,_,xs,_,dd⟩:=B' I.hok e;exact dd.typeIs
def zZ (td ty:TE):TE:=fun σ H Q=>td σ H fun x H1=>ty σ H1 fun y H2=>∃ a v,x = .ref a/\DGet H2 a y (some v)/\Q v H2
def xE (td ty tv:TE):TS:=fun D σ H=>tv σ H fun v H1=>td σ H1 fun x H2=>ty σ H2 fun y H3=>∃ a H4,x = .ref a/\DPut H3 a y v H4/\D.nx σ H4
section
variable {o i e value:Expr} {pos' ZR:Pos} {td ty tv:TE}
theorem DR (hu:X.A.units + 1 < cLine) (ho:PE X o td) (hi:PE X i ty) (hs:Jb i):PE X (.Subscript o i pos) (zZ td ty):=by
 intro pins s σ H Q I h;refine C5 PySem.F.slot_dict_getitem.lookup hs (cp (ho pins s σ H _ I h) fun u s1 ⟨x,H1,I1,rx,q1⟩=>cp (hi pins s1 σ H1 _ I1 q1) fun iv s2 ⟨y,H2,I2,ry,a,v,ex,g,q2⟩=>?_)
 subst ex;obtain rfl:u = Value.ref a:=rx;exact ⟨vg I2 g,zr hu I2 g ry fun w' s3 I3 AD=>⟨v,H2,I3,AD,q2⟩⟩
theorem DD (hu : X.A.units + 1 < cLine) (ho : PE X o td) (hi : PE X i ty) (hv : PE X value tv) (hs : swapsWith value (some (.Subscript o i pos')) pos.line X.env = pure false) :
    PS X (.Assign [.Subscript o i pos'] value pos) (xE td ty tv):=by
 intro pins s σ H D I h;refine wpAny_Assign_Subscript (cp (hv pins s σ H _ I h) fun r s1 ⟨v,H1,I1,rv,q1⟩=>cp (ho pins s1 σ H1 _ I1 q1) fun u s2 ⟨x,H2,I2,rx,q2⟩=>cp (hi pins s2 σ H2 _ I2 q2) fun iv s3 ⟨y,H3,I3,ry,a,H4,ex,g,q3⟩=>?_) hs
 subst ex;obtain rfl:u = Value.ref a:=rx;exact zq hu I3 g ry rv fun s4 I4=>⟨σ,H4,I4,q3⟩
end
theorem Ca (h:Heap) (hb:sysModules < h.objs.size):ObjOk P w H (h.push { cls:=.type "dict",data:=.dict #[] }) h.objs.size (.dT []) :=
 ⟨Nat.zero_le _,beq_eq_false_iff_ne.mpr (Ne.symm (Nat.ne_of_lt hb)),[],.nil,_,#[],0,Heap.get?_push_size _ rfl,⟨rfl,rfl,rfl⟩,rfl,rfl,List.nodup_nil⟩
def vX:TE:=fun _ H Q=>∀ p,H p = none->Q (.ref p) (upd H p (.dT []))
section
theorem Bd:PE X (.Dict [] [] pos) vX:=fun pins s σ H Q I h =>
 wpAny_Dict_empty ⟨.ref s.heap.objs.size,_,I.laid (a:=s.heap.objs.size) (o:=.dT []) (t':=s.toks) (fun _ _ q=>Heap.get?_push_of_some _ q) (Nat.le_refl _) (Ca s.heap I.big),rfl,h _ (I.hok.fresh (Nat.le_refl _))⟩
end
end L2
namespace L2
open PySem PySem.Spec PyProof.Rows PySem.SeqAt
section
variable {X:Cx}
inductive NoNum (H:Hp):V->Prop where
 | non:NoNum H .non
 | str (x:Str):NoNum H (.str x)
 | lst {a:Addr} {xs:List V} (e:H a = some (.lst xs)):NoNum H (.ref a)
 | tup {a:Addr} {xs:List V} (e:H a = some (.tup xs)):NoNum H (.ref a)
 | dK {a:Addr} {az:List (Key × V)} (e:H a = some (.dK az)):NoNum H (.ref a)
end
end L2
namespace L2
open PySem PySem.Spec PyProof.Rows
variable {X:Cx} {i j:Int} {H H':Hp} {v:V}
def isStar:Expr->Bool
 | .Starred ..=>true
 | _=>false
theorem aJ {e:Expr} {es:List Expr} {env:Env} (h:isStar e = false):starEach (e :: es) env = (false,eval e env) :: starEach es env:=by
 cases e <;> first
  | rfl
  | (have h':true = false:=h;cases h')
def noStar:List Expr->Bool
 | []=>true
 | e :: es=>!isStar e && noStar es
theorem cC {pos:Pos} {env:Env}:∀ {es:List Expr},noStar es = true->(backTo pos (starEach es env)).any (·.1) = false
 | [],_=>rfl
 | e :: es,h=>by
  have h':(!isStar e && noStar es) = true:=h;rw [Bool.and_eq_true] at h';have h1:isStar e = false:=by simpa using h'.1
  rw [aJ h1];show (false || (backTo pos (starEach es env)).any (·.1)) = false;rw [cC h'.2]
  rfl
section
variable {x:Str} {st:Stmt} {ps:List Str} {f:Addr} {fd:FuncData} {k:Nat} {sp:Sp} {e:Expr} {es:List Expr} {t:TA} {te:TE} {p pos:Pos} {id T:String} {r:List V->Hp->VK->Prop}
theorem PF (ha:PE X e te) (hr:PA X es t) (h:isStar e = false:=by rfl):PA X (e :: es) (tK te t):=DY ha hr (aJ h)
theorem PC (N : Fn X.K X.mg x st ps f fd) (G : FnOk X.prog X.w X.K X.mg X.base cB k f fd ps sp) (hr : Room k X.A) (ha : PA X (e :: es) t) (hg : Gl X x := by rfl) (sJ : (x == ("__debug__" : Str)) = false := by decide) (h1 : isStar e = false := by rfl) (h2 : noStar es = true := by rfl) :
    PE X (.Call (.Name x p) (e :: es) [] pos) (nI sp [] E0 t):=Kn N G hr ha hg sJ (aJ h1) (cC h2)
theorem PD (hc : cF X (.builtin id) r) (hm : X.mg x = none) (hv : bootBuiltins x = some (.builtin id)) (ha : PA X (e :: es) t) (hg : Gl X x := by rfl) (hn : x ≠ "__name__" := by decide) (sJ : (x == ("__debug__" : Str)) = false := by decide) (h1 : isStar e = false := by rfl) (h2 : noStar es = true := by rfl) :
    PE X (.Call (.Name x p) (e :: es) [] pos) (F0 r t):=Bg hc hg hm hv ha hn sJ (aJ h1) (cC h2)
theorem PB (hc : cF X (.type T) r) (hm : X.mg x = none) (hv : bootBuiltins x = some (.type T)) (ha : PA X (e :: es) t) (hg : Gl X x := by rfl) (hn : x ≠ "__name__" := by decide) (sJ : (x == ("__debug__" : Str)) = false := by decide) (h1 : isStar e = false := by rfl) (h2 : noStar es = true := by rfl) :
    PE X (.Call (.Name x p) (e :: es) [] pos) (F0 r t):=yO hc hg hm hv ha hn sJ (aJ h1) (cC h2)
theorem Kf {tg a:Expr} {ta:TA} (hm:X.mg "range" = none) (ha:PA X [a] ta) (hg:Gl X "range":=by rfl) (h1:isStar a = false:=by rfl):PI X tg (.Call (.Name "range" p) [a] [] pos) (xU ta):=yN hg hm ha (by rw [aJ h1];rfl)
theorem Ke {tg a b:Expr} {ta:TA} (hm:X.mg "range" = none) (ha:PA X [a,b] ta) (hg:Gl X "range":=by rfl) (h1:isStar a = false:=by rfl) (h2:isStar b = false:=by rfl):PI X tg (.Call (.Name "range" p) [a,b] [] pos) (xT ta):=yM hg hm ha (by rw [aJ h1,aJ h2];rfl) (by rw [aJ h2];rfl)
end
theorem len_list (z:Str):z.length = z.cps.toList.length:=by simp [Str.length]
theorem app_list (x y:Str):(x ++ y).cps.toList = x.cps.toList ++ y.cps.toList:=by
 show (x.cps ++ y.cps).toList = _;simp
theorem vt {α:Type} [Inhabited α] {xs:List α} (h0:0 <= i) (h1:i < xs.length):∃ c,mj xs i = some c/\c ∈ xs:=by
 obtain ⟨j,rfl⟩:∃ j:Nat,i = j:=⟨i.toNat,by omega⟩;have hj:j < xs.length:=by omega
 exact ⟨xs[j],d6 (List.getElem?_eq_getElem hj),List.getElem_mem hj⟩
theorem tW {z:Str} (h0:0 <= j) (h1:j <= z.length):(Txt.slice z none (some j)).cps.toList = z.cps.toList.take j.toNat:=by
 have e:=slice_closes_to (x:=z) (j:=j) ⟨h0,by rw [<- len_list];exact h1⟩;rw [eq_of_beq e];simp
theorem jz {z:Str} (h0:0 <= j) (h1:j <= z.length):(Txt.slice z (some j) none).cps.toList = z.cps.toList.drop j.toNat:=by
 have e:=slice_closes_from (x:=z) (i:=j) ⟨h0,by rw [<- len_list];exact h1⟩;rw [eq_of_beq e];show ((z.cps.toList.drop j.toNat).take ((z.cps.toList.length:Int) - j).toNat) = _;apply List.take_of_length_le;rw [List.length_drop];omega
section
variable {K:W.Frag}
theorem TyOf.same {t:Value} (ty:TyOf K H v t) (s:Same H H'):TyOf K H' v t:=by
 cases ty with
 | non=>exact .non
 | bl x=>exact .bl x
 | int i=>exact .int i
 | str x=>exact .str x
 | flt x=>exact .flt x
 | lst e=>exact .lst (s _ _ e)
 | frz e=>exact .frz (s _ _ e)
 | tup e=>exact .tup (s _ _ e)
 | dK e=>exact .dK (s _ _ e)
 | dT e=>exact .dT (s _ _ e)
 | ins e cl ha hn M4 hm=>exact .ins (s _ _ e) cl ha hn M4 hm
theorem NotStr.same (h:NotStr K H v) (s:Same H H'):NotStr K H' v:=by
 obtain ⟨t,ty,k⟩:=h;exact ⟨t,ty.same s,k⟩
theorem NoNum.same (h:NoNum H v) (s:Same H H'):NoNum H' v:=by
 cases h with
 | non=>exact .non
 | str x=>exact .str x
 | lst e=>exact .lst (s _ _ e)
 | tup e=>exact .tup (s _ _ e)
 | dK e=>exact .dK (s _ _ e)
end
section
def ij (K:W.Frag):R2:=fun x y H Q=>zE (fun i j=>.int (i + j)) x y H Q \/ (∃ i j,x = .str i/\y = .str j/\i.length + j.length <= sizeLine/\Q (.str (i ++ j)) H) \/ J' x y H Q \/ Fj K x y H Q
theorem aG:OpR X (binaryOp .Add) (ij X.K):=HJ.or (wy.or (HH.or D0))
def Ff:R2:=fun x y H Q=>rI CMul (fun i j=>.int (i * j)) x y H Q \/ (∃ z n,x = .str z/\y = .int n/\MulOk z n/\Q (.str (Txt.mul z n)) H) \/ J0 x y H Q
theorem dJ:OpR X (binaryOp .Mult) Ff:=HD.or (wx.or HC)
def AX:R2:=fun x y H Q=>zE (fun i j=>.bl (decide (i < j))) x y H Q \/ (∃ i j,x = .str i/\y = .str j/\Q (.bl (decide (i.cps.toList < j.cps.toList))) H)
theorem wH:OpR X (compareOp .Lt) AX:=Kq.or yQ
def AY:R2:=fun x y H Q=>zE (fun i j=>.bl (decide (i <= j))) x y H Q \/ (∃ i j,x = .str i/\y = .str j/\Q (.bl (!decide (j.cps.toList < i.cps.toList))) H)
theorem wI:OpR X (compareOp .LtE) AY:=Kr.or yR
def yH (K:W.Frag):V->Option Int->Option Int->Hp->VK->Prop:=fun x lo hi H Q=>JY x lo hi H Q \/ JZ K x lo hi H Q \/ JX K x lo hi H Q
theorem dI:SlR X (yH X.K):=Gj.or (Dd.or Gi)
end
section
variable {K:W.Frag} {σ:St} {D:Ends} {Q:VK} {E:XK}
theorem AO (hc:0 < j) (h:Q (.int (i % j)) H):rI (fun _ j=>0 < j) (fun i j=>.int (i % j)) (.int i) (.int j) H Q:=⟨i,j,rfl,rfl,hc,h⟩
theorem Dq (hc:0 < j/\j < 1073741824) (h:Q (.int (i / j)) H):rI MI (fun i j=>.int (i / j)) (.int i) (.int j) H Q:=⟨i,j,rfl,rfl,hc,h⟩
theorem Gy (hc:0 <= j) (h:Q (.int (i / 2 ^ j.toNat)) H):rI (fun _ j=>0 <= j) (fun i j=>.int (i / 2 ^ j.toNat)) (.int i) (.int j) H Q:=⟨i,j,rfl,rfl,hc,h⟩
theorem Du (h:Q (.int (i + j)) H):ij K (.int i) (.int j) H Q:=.inl ⟨i,j,rfl,rfl,h⟩
theorem aS {i j:Str} (hz:i.length + j.length <= sizeLine) (h:Q (.str (i ++ j)) H):ij K (.str i) (.str j) H Q:=.inr (.inl ⟨i,j,rfl,rfl,hz,h⟩)
theorem bh {p:Addr} {o:HO} (h:H p = none):Same H (upd H p o):=fun b u e=>by rw [ay (cS e h)];exact e
theorem nq {l b:Addr} {xs ys:List V} (h1:H l = some (.lst xs)) (h2:H b = some (.lst ys)) (hz:xs.length + ys.length <= sizeLine) (h:∀ p H1,H p = none->Same H H1->H1 p = some (.lst (xs ++ ys))->Q (.ref p) H1):ij K (.ref l) (.ref b) H Q :=
 .inr (.inr (.inl ⟨l,b,xs,ys,rfl,rfl,h1,h2,hz,fun p hp=>h p _ hp (bh hp) aC⟩))
theorem Dl (hc:CMul i j) (h:Q (.int (i * j)) H):Ff (.int i) (.int j) H Q:=.inl ⟨i,j,rfl,rfl,hc,h⟩
theorem GH (h:Q (.bl (decide (i < j))) H):AX (.int i) (.int j) H Q:=.inl ⟨i,j,rfl,rfl,h⟩
theorem GG {i j:Str} (h:Q (.bl (decide (i.cps.toList < j.cps.toList))) H):AX (.str i) (.str j) H Q:=.inr ⟨i,j,rfl,rfl,h⟩
theorem GK (h:Q (.bl (decide (i <= j))) H):AY (.int i) (.int j) H Q:=.inl ⟨i,j,rfl,rfl,h⟩
theorem GJ {i j:Str} (h:Q (.bl (!decide (j.cps.toList < i.cps.toList))) H):AY (.str i) (.str j) H Q:=.inr ⟨i,j,rfl,rfl,h⟩
end
end L2
namespace L2
open PySem PySem.Spec PyProof.Rows PySem.SeqAt
variable {H:Hp}
inductive D where
 | non | bl (b:Bool) | int (i:Int) | str (x:Str) | lst (xs:List D) | tup (xs:List D) | dct
mutual
def Rep (H:Hp):D->V->Prop
 | .non,v=>v = .non
 | .bl b,v=>v = .bl b
 | .int i,v=>v = .int i
 | .str x,v=>v = .str x
 | .lst ds,v=>∃ a vs,v = .ref a/\H a = some (.lst vs)/\Reps H ds vs
 | .tup ds,v=>∃ a vs,v = .ref a/\H a = some (.tup vs)/\Reps H ds vs
 | .dct,v=>∃ a az,v = .ref a/\H a = some (.dK az)
def Reps (H:Hp):List D->List V->Prop
 | [],vs=>vs = []
 | d :: ds,vs=>∃ v r,vs = v :: r/\Rep H d v/\Reps H ds r
end
mutual
def aE:D->D->Bool
 | .non,.non=>true
 | .bl a,.bl b=>a == b
 | .bl a,.int i=>(if a then 1 else 0) == i
 | .int i,.bl a=>i == (if a then 1 else 0)
 | .int i,.int j=>i == j
 | .str x,.str y=>x == y
 | .lst xs,.lst ys=>d8 xs ys
 | .tup xs,.tup ys=>d8 xs ys
 | .dct,.dct=>true
 | _,_=>false
def d8:List D->List D->Bool
 | [],[]=>true
 | x :: xs,y :: ys=>aE x y && d8 xs ys
 | _,_=>false
end
mutual
def D.dep:D->Nat
 | .lst ds=>D.deps ds + 1
 | .tup ds=>D.deps ds + 1
 | .dct=>1000
 | _=>0
def D.deps:List D->Nat
 | []=>0
 | d :: ds=>max (D.dep d) (D.deps ds)
end
theorem Reps.length {H:Hp}:∀ {ds:List D} {vs:List V},Reps H ds vs->ds.length = vs.length
 | [],vs,h=>by simp only [Reps] at h;subst h;rfl
 | d :: ds,vs,h=>by
  simp only [Reps] at h;obtain ⟨v,r,rfl,_,h⟩:=h;rw [List.length_cons,List.length_cons,Reps.length h]
mutual
theorem Rep.same {H H':Hp} (s:Same H H'):∀ {d:D} {v:V},Rep H d v->Rep H' d v
 | .non,v,h=>by simp only [Rep] at h ⊢;exact h
 | .bl b,v,h=>by simp only [Rep] at h ⊢;exact h
 | .int b,v,h=>by simp only [Rep] at h ⊢;exact h
 | .str b,v,h=>by simp only [Rep] at h ⊢;exact h
 | .lst ds,v,h=>by simp only [Rep] at h ⊢;obtain ⟨a,vs,e,h1,h2⟩:=h;exact ⟨a,vs,e,s _ _ h1,Reps.same s h2⟩
 | .tup ds,v,h=>by simp only [Rep] at h ⊢;obtain ⟨a,vs,e,h1,h2⟩:=h;exact ⟨a,vs,e,s _ _ h1,Reps.same s h2⟩
 | .dct,v,h=>by simp only [Rep] at h ⊢;obtain ⟨a,vs,e,h1⟩:=h;exact ⟨a,vs,e,s _ _ h1⟩
theorem Reps.same {H H':Hp} (s:Same H H'):∀ {ds:List D} {vs:List V},Reps H ds vs->Reps H' ds vs
 | [],vs,h=>by simp only [Reps] at h ⊢;exact h
 | d :: ds,vs,h=>by simp only [Reps] at h ⊢;obtain ⟨v,r,e,h1,h2⟩:=h;exact ⟨v,r,e,Rep.same s h1,Reps.same s h2⟩
end
mutual
theorem eS:∀ d:D,aE d d = true
 | .non=>by simp [aE]
 | .bl b=>by simp [aE]
 | .int b=>by simp [aE]
 | .str b=>by simp [aE]
 | .lst ds=>by simp only [aE];exact jD ds
 | .tup ds=>by simp only [aE];exact jD ds
 | .dct=>by simp only [aE]
theorem jD:∀ ds:List D,d8 ds ds = true
 | []=>by simp [d8]
 | d :: ds=>by simp only [d8];rw [eS d,jD ds];rfl
end
mutual
theorem Rep.inj {H:Hp}:∀ {d e:D} {v:V},Rep H d v->Rep H e v->d = e
 | .non,e,v,h,h'=>by simp only [Rep] at h;subst h;cases e <;> simp only [Rep] at h' <;> first | rfl | (cases h';done) | (obtain ⟨_,_,z,_⟩:=h';cases z)
 | .bl b,e,v,h,h'=>by simp only [Rep] at h;subst h;cases e <;> simp only [Rep] at h' <;> first | (cases h';rfl) | (cases h';done) | (obtain ⟨_,_,z,_⟩:=h';cases z)
 | .int b,e,v,h,h'=>by simp only [Rep] at h;subst h;cases e <;> simp only [Rep] at h' <;> first | (cases h';rfl) | (cases h';done) | (obtain ⟨_,_,z,_⟩:=h';cases z)
 | .str b,e,v,h,h'=>by simp only [Rep] at h;subst h;cases e <;> simp only [Rep] at h' <;> first | (cases h';rfl) | (cases h';done) | (obtain ⟨_,_,z,_⟩:=h';cases z)
 | .lst ds,e,v,h,h'=>by
  simp only [Rep] at h;obtain ⟨a,vs,rfl,h1,h2⟩:=h
  cases e <;> simp only [Rep] at h' <;> first | (cases h';done) | skip
  ·obtain ⟨a',FO,z,jO,h2'⟩:=h'
   cases z
   rw [h1] at jO
   cases jO
   rw [Reps.inj h2 h2']
  ·obtain ⟨a',FO,z,jO,h2'⟩:=h'
   cases z
   rw [h1] at jO
   cases jO
  ·obtain ⟨a',FO,z,jO⟩:=h'
   cases z
   rw [h1] at jO
   cases jO
 | .tup ds,e,v,h,h'=>by
  simp only [Rep] at h;obtain ⟨a,vs,rfl,h1,h2⟩:=h
  cases e <;> simp only [Rep] at h' <;> first | (cases h';done) | skip
  ·obtain ⟨a',FO,z,jO,h2'⟩:=h'
   cases z
   rw [h1] at jO
   cases jO
  ·obtain ⟨a',FO,z,jO,h2'⟩:=h'
   cases z
   rw [h1] at jO
   cases jO
   rw [Reps.inj h2 h2']
  ·obtain ⟨a',FO,z,jO⟩:=h'
   cases z
   rw [h1] at jO
   cases jO
 | .dct,e,v,h,h'=>by
  simp only [Rep] at h;obtain ⟨a,vs,rfl,h1⟩:=h
  cases e <;> simp only [Rep] at h' <;> first | rfl | (cases h';done) | skip
  ·obtain ⟨a',FO,z,jO,h2'⟩:=h'
   cases z
   rw [h1] at jO
   cases jO
  ·obtain ⟨a',FO,z,jO,h2'⟩:=h'
   cases z
   rw [h1] at jO
   cases jO
theorem Reps.inj {H:Hp}:∀ {ds es:List D} {vs:List V},Reps H ds vs->Reps H es vs->ds = es
 | [],es,vs,h,h'=>by
  simp only [Reps] at h;subst h
  cases es with
  | nil=>rfl
  | cons e es=>simp only [Reps] at h';obtain ⟨_,_,z,_⟩:=h';cases z
 | d :: ds,es,vs,h,h'=>by
  simp only [Reps] at h;obtain ⟨v,r,rfl,h1,h2⟩:=h
  cases es with
  | nil=>simp only [Reps] at h';cases h'
  | cons e es =>
   simp only [Reps] at h';obtain ⟨_,_,z,jO,h2'⟩:=h'
   cases z
   rw [Rep.inj h1 jO,Reps.inj h2 h2']
end
theorem oP {A:Around} {s:Shared} {v u:Value} {b:Bool} (hf:∀ c t,v ≠ .float c t) (hs:v = u->b = true) (h:RcAt A s v u b):EqAt A s v u b:=fun prog w E Q hq=>by
 unfold eqBool;refine wpAny_holding ?_;refine wpAny_ite_split (fun hab=>?_) (fun _=>?_)
 ·rw [hs (eq_of_beq hab)] at hq;exact wpAny_bind (wpAny_rule (wpAny_pure hq))
 ·cases v <;> first
   | exact absurd rfl (hf _ _)
   | exact wpAny_bind (h prog w E _ (wpAny_truthy_bool hq))
theorem Rep.noflt {d:D} {x:V} {v:Value} (h:Rep H d x) (r:RelV x v):∀ c t,v ≠ .float c t:=fun c t z=>by
 subst z
 cases d <;> simp only [Rep] at h
 ·subst h;cases (show Value.float c t = Value.none from r)
 ·subst h;cases (show Value.float c t = Value.bool _ from r)
 ·subst h;obtain ⟨_,z⟩:=r;cases z
 ·subst h;obtain ⟨_,z⟩:=r;cases z
 ·obtain ⟨a,_,rfl,_⟩:=h;cases (show Value.float c t = Value.ref a from r)
 ·obtain ⟨a,_,rfl,_⟩:=h;cases (show Value.float c t = Value.ref a from r)
 ·obtain ⟨a,_,rfl,_⟩:=h;cases (show Value.float c t = Value.ref a from r)
def zp (ds es:List D) (j:Nat):Bool:=aE (ds.getD j .non) (es.getD j .non)
theorem fI:∀ {ds es:List D},ds.length = es.length->(List.range ds.length).all (zp ds es) = d8 ds es
 | [],[],_=>by simp [d8]
 | [],_ :: _,h=>by simp at h
 | _ :: _,[],h=>by simp at h
 | d :: ds,e :: es,h=>by
  rw [List.length_cons,List.range_succ_eq_map,List.all_cons,List.all_map];have ih:=fI (ds:=ds) (es:=es) (by simpa using h);simp only [d8];rw [<- ih]
  rfl
theorem iW:∀ {ds es:List D},ds.length ≠ es.length->d8 ds es = false
 | [],[],h=>by simp at h
 | [],_ :: _,_=>by simp [d8]
 | _ :: _,[],_=>by simp [d8]
 | d :: ds,e :: es,h=>by
  simp only [d8];rw [iW (ds:=ds) (es:=es) (by simpa using h),Bool.and_false]
theorem Reps.get {H:Hp}:∀ {ds:List D} {vs:List V} {j:Nat},Reps H ds vs->j < ds.length->∃ v,vs[j]? = some v/\Rep H (ds.getD j .non) v
 | [],_,_,_,h=>by simp at h
 | d :: ds,vs,j,h,hj=>by
  simp only [Reps] at h;obtain ⟨v,r,rfl,h1,h2⟩:=h
  cases j with
  | zero=>exact ⟨v,rfl,h1⟩
  | succ j =>
   obtain ⟨w,e,h3⟩:=Reps.get h2 (show j < ds.length by simpa using hj);exact ⟨w,by simpa using e,h3⟩
theorem D.dep_get:∀ (ds:List D) (j:Nat),(ds.getD j .non).dep <= D.deps ds
 | [],j=>by simp [D.dep,D.deps]
 | d :: ds,0=>by simp only [D.deps,List.getD_cons_zero];omega
 | d :: ds,j + 1=>by
  have:=D.dep_get ds j;simp only [D.deps,List.getD_cons_succ];omega
theorem l0 {n m:Nat} {e:Nat->Bool} {ds es:List D} (hn:n = ds.length) (hm:m = es.length) (he:e = zp ds es):((List.range (min n m)).all e && n == m) = d8 ds es:=by
 subst hn hm he
 by_cases h:ds.length = es.length
 ·rw [h,Nat.min_self,<- h,fI h];simp
 ·rw [iW h,beq_eq_false_iff_ne.mpr h,Bool.and_false]
theorem wj {P:Program} {w:World}:∀ (n:Nat) {A:Around} {s:Shared} {H:Hp} {d e:D} {x y:V} {v u:Value},HOk P w H s.heap->d.dep <= n->e.dep <= n->n < 1000->Rep H d x->Rep H e y->RelV x v->RelV y u->A.units + n < cLine->RcAt A s v u (aE d e)
 | n,A,s,H,d,e,x,y,v,u,hok,hn,oH,eQ,hd,he,rx,ry,hu=>by
  have fO:A.units < cLine:=by omega
  have items:∀ {ds es:List D} {vs us:List V} {its iE:List Value},D.deps ds + 1 <= n->D.deps es + 1 <= n->Reps H ds vs->Reps H es us->Vals vs its->Vals us iE->∀ j (h1:j < its.toArray.size) (h2:j < iE.toArray.size),EqAt A.in1 s its.toArray[j] iE.toArray[j] (zp ds es j):=by
   intro ds es vs us its iE To Li r1 r2 v1 v2 j h1 h2;have l1:=r1.length;have l2:=r2.length;have l3:=v1.length;have l4:=v2.length;rw [List.size_toArray] at h1 h2;obtain ⟨a,ea,ra⟩:=r1.get (j:=j) (by omega);obtain ⟨b,eb,rb⟩:=r2.get (j:=j) (by omega);obtain ⟨va,Ly,Gv⟩:=v1.get ea;obtain ⟨vb,Lx,JS⟩:=v2.get eb;have ga:its.toArray[j]'(by simpa using h1) = va:=by
    rw [List.getElem?_eq_getElem h1] at Ly;simpa using Option.some.inj Ly
   have gb:iE.toArray[j]'(by simpa using h2) = vb:=by
    rw [List.getElem?_eq_getElem h2] at Lx;simpa using Option.some.inj Lx
   rw [ga,gb];have hdj:=D.dep_get ds j;have Tn:=D.dep_get es j;refine oP (ra.noflt Gv) (fun z=>?_) (wj (n - 1) hok (by omega) (by omega) (by omega) ra rb Gv JS (by rw [Around.in1_units];omega));subst z;have:=Gv.inj JS;subst this;have:=ra.inj rb;unfold zp;rw [this];exact eS _
  cases d with
  | dct=>simp only [D.dep] at hn;omega
  | non =>
   simp only [Rep] at hd;subst hd
   cases (show v = Value.none from rx)
   cases e with
   | dct=>simp only [D.dep] at oH;omega
   | non=>simp only [Rep] at he;subst he;cases (show u = Value.none from ry);simp only [aE];exact RcAt.none_none
   | bl b=>simp only [Rep] at he;subst he;cases (show u = Value.bool b from ry);simp only [aE];exact RcAt.none_bool _
   | int b=>simp only [Rep] at he;subst he;obtain ⟨t,rfl⟩:=ry;simp only [aE];exact RcAt.none_int _ _
   | str b=>simp only [Rep] at he;subst he;obtain ⟨t,rfl⟩:=ry;simp only [aE];exact RcAt.none_str _ _
   | lst ds=>simp only [Rep] at he;obtain ⟨a,vs,rfl,h1,h2⟩:=he;cases (show u = Value.ref a from ry);obtain ⟨_,its,k,_,h3⟩:=(show ObjOk P w H s.heap a (.lst vs) from hok a _ h1);simp only [aE];exact RcAt.none_list (items:=its.toArray) ⟨_,h3,rfl,k,rfl⟩ fO
   | tup ds=>simp only [Rep] at he;obtain ⟨a,vs,rfl,h1,h2⟩:=he;cases (show u = Value.ref a from ry);obtain ⟨_,its,_,h3⟩:=(show ObjOk P w H s.heap a (.tup vs) from hok a _ h1);simp only [aE];exact RcAt.none_tuple h3 fO
  | bl c =>
   simp only [Rep] at hd;subst hd
   cases (show v = Value.bool c from rx)
   cases e with
   | dct=>simp only [D.dep] at oH;omega
   | non=>simp only [Rep] at he;subst he;cases (show u = Value.none from ry);simp only [aE];exact RcAt.bool_none _
   | bl b=>simp only [Rep] at he;subst he;cases (show u = Value.bool b from ry);simp only [aE];exact RcAt.bool_bool _ _
   | int b=>simp only [Rep] at he;subst he;obtain ⟨t,rfl⟩:=ry;simp only [aE];exact RcAt.bool_int _ _ _
   | str b=>simp only [Rep] at he;subst he;obtain ⟨t,rfl⟩:=ry;simp only [aE];exact RcAt.bool_str _ _ _
   | lst ds=>simp only [Rep] at he;obtain ⟨a,vs,rfl,h1,h2⟩:=he;cases (show u = Value.ref a from ry);obtain ⟨_,its,k,_,h3⟩:=(show ObjOk P w H s.heap a (.lst vs) from hok a _ h1);simp only [aE];exact RcAt.bool_list (items:=its.toArray) _ ⟨_,h3,rfl,k,rfl⟩ fO
   | tup ds=>simp only [Rep] at he;obtain ⟨a,vs,rfl,h1,h2⟩:=he;cases (show u = Value.ref a from ry);obtain ⟨_,its,_,h3⟩:=(show ObjOk P w H s.heap a (.tup vs) from hok a _ h1);simp only [aE];exact RcAt.bool_tuple _ h3 fO
  | int c =>
   simp only [Rep] at hd;subst hd;obtain ⟨t',rfl⟩:=rx
   cases e with
   | dct=>simp only [D.dep] at oH;omega
   | non=>simp only [Rep] at he;subst he;cases (show u = Value.none from ry);simp only [aE];exact RcAt.int_none _ _
   | bl b=>simp only [Rep] at he;subst he;cases (show u = Value.bool b from ry);simp only [aE];exact RcAt.int_bool _ _ _
   | int b=>simp only [Rep] at he;subst he;obtain ⟨t,rfl⟩:=ry;simp only [aE];exact RcAt.int_int _ _ _ _
   | str b=>simp only [Rep] at he;subst he;obtain ⟨t,rfl⟩:=ry;simp only [aE];exact RcAt.int_str _ _ _ _
   | lst ds=>simp only [Rep] at he;obtain ⟨a,vs,rfl,h1,h2⟩:=he;cases (show u = Value.ref a from ry);obtain ⟨_,its,k,_,h3⟩:=(show ObjOk P w H s.heap a (.lst vs) from hok a _ h1);simp only [aE];exact RcAt.int_list (items:=its.toArray) _ _ ⟨_,h3,rfl,k,rfl⟩ fO
   | tup ds=>simp only [Rep] at he;obtain ⟨a,vs,rfl,h1,h2⟩:=he;cases (show u = Value.ref a from ry);obtain ⟨_,its,_,h3⟩:=(show ObjOk P w H s.heap a (.tup vs) from hok a _ h1);simp only [aE];exact RcAt.int_tuple _ _ h3 fO
  | str c =>
   simp only [Rep] at hd;subst hd;obtain ⟨t',rfl⟩:=rx
   cases e with
   | dct=>simp only [D.dep] at oH;omega
   | non=>simp only [Rep] at he;subst he;cases (show u = Value.none from ry);simp only [aE];exact RcAt.str_none _ _
   | bl b=>simp only [Rep] at he;subst he;cases (show u = Value.bool b from ry);simp only [aE];exact RcAt.str_bool _ _ _
   | int b=>simp only [Rep] at he;subst he;obtain ⟨t,rfl⟩:=ry;simp only [aE];exact RcAt.str_int _ _ _ _
   | str b=>simp only [Rep] at he;subst he;obtain ⟨t,rfl⟩:=ry;simp only [aE];exact RcAt.str_str _ _ _ _
   | lst ds=>simp only [Rep] at he;obtain ⟨a,vs,rfl,h1,h2⟩:=he;cases (show u = Value.ref a from ry);obtain ⟨_,its,k,_,h3⟩:=(show ObjOk P w H s.heap a (.lst vs) from hok a _ h1);simp only [aE];exact RcAt.str_list (items:=its.toArray) _ _ ⟨_,h3,rfl,k,rfl⟩ fO
   | tup ds=>simp only [Rep] at he;obtain ⟨a,vs,rfl,h1,h2⟩:=he;cases (show u = Value.ref a from ry);obtain ⟨_,its,_,h3⟩:=(show ObjOk P w H s.heap a (.tup vs) from hok a _ h1);simp only [aE];exact RcAt.str_tuple _ _ h3 fO
  | lst cs =>
   simp only [Rep] at hd;obtain ⟨b,ws,rfl,g1,g2⟩:=hd
   cases (show v = Value.ref b from rx)
   obtain ⟨_,Ef,m,g4,g3⟩:=(show ObjOk P w H s.heap b (.lst ws) from hok b _ g1);have gl:s.heap.IsList b Ef.toArray:=⟨_,g3,rfl,m,rfl⟩
   cases e with
   | dct=>simp only [D.dep] at oH;omega
   | non=>simp only [Rep] at he;subst he;cases (show u = Value.none from ry);simp only [aE];exact RcAt.list_none gl fO
   | bl b=>simp only [Rep] at he;subst he;cases (show u = Value.bool b from ry);simp only [aE];exact RcAt.list_bool _ gl fO
   | int b=>simp only [Rep] at he;subst he;obtain ⟨t,rfl⟩:=ry;simp only [aE];exact RcAt.list_int _ _ gl fO
   | str b=>simp only [Rep] at he;subst he;obtain ⟨t,rfl⟩:=ry;simp only [aE];exact RcAt.list_str _ _ gl fO
   | lst ds =>
    simp only [Rep] at he;obtain ⟨a,vs,rfl,h1,h2⟩:=he
    cases (show u = Value.ref a from ry)
    obtain ⟨_,its,k,h4,h3⟩:=(show ObjOk P w H s.heap a (.lst vs) from hok a _ h1);simp only [aE];have l1:=g2.length;have l2:=h2.length;have l3:=g4.length;have l4:=h4.length
    by_cases hl:cs.length = ds.length
    ·rw [<- fI hl];have e1:cs.length = Ef.toArray.size:=by rw [List.size_toArray];omega
     rw [e1];exact RcAt.lists gl ⟨_,h3,rfl,k,rfl⟩ (by rw [List.size_toArray,List.size_toArray];omega) fO (items (by simp only [D.dep] at hn;omega) (by simp only [D.dep] at oH;omega) g2 h2 g4 h4)
    ·rw [iW hl];exact RcAt.lists_lengths (items2:=its.toArray) gl ⟨_,h3,rfl,k,rfl⟩ (by rw [List.size_toArray,List.size_toArray];exact bne_iff_ne.mpr (by omega)) fO
   | tup ds=>simp only [Rep] at he;obtain ⟨a,vs,rfl,h1,h2⟩:=he;cases (show u = Value.ref a from ry);obtain ⟨_,its,_,h3⟩:=(show ObjOk P w H s.heap a (.tup vs) from hok a _ h1);simp only [aE];exact RcAt.list_tuple gl h3 fO
  | tup cs =>
   simp only [Rep] at hd;obtain ⟨b,ws,rfl,g1,g2⟩:=hd
   cases (show v = Value.ref b from rx)
   obtain ⟨_,Ef,g4,gl⟩:=(show ObjOk P w H s.heap b (.tup ws) from hok b _ g1)
   cases e with
   | dct=>simp only [D.dep] at oH;omega
   | non=>simp only [Rep] at he;subst he;cases (show u = Value.none from ry);simp only [aE];exact RcAt.tuple_none gl fO
   | bl b=>simp only [Rep] at he;subst he;cases (show u = Value.bool b from ry);simp only [aE];exact RcAt.tuple_bool _ gl fO
   | int b=>simp only [Rep] at he;subst he;obtain ⟨t,rfl⟩:=ry;simp only [aE];exact RcAt.tuple_int _ _ gl fO
   | str b=>simp only [Rep] at he;subst he;obtain ⟨t,rfl⟩:=ry;simp only [aE];exact RcAt.tuple_str _ _ gl fO
   | lst ds=>simp only [Rep] at he;obtain ⟨a,vs,rfl,h1,h2⟩:=he;cases (show u = Value.ref a from ry);obtain ⟨_,its,k,_,h3⟩:=(show ObjOk P w H s.heap a (.lst vs) from hok a _ h1);simp only [aE];exact RcAt.tuple_list (items2:=its.toArray) gl ⟨_,h3,rfl,k,rfl⟩ fO
   | tup ds =>
    simp only [Rep] at he;obtain ⟨a,vs,rfl,h1,h2⟩:=he
    cases (show u = Value.ref a from ry)
    obtain ⟨_,its,h4,h3⟩:=(show ObjOk P w H s.heap a (.tup vs) from hok a _ h1);simp only [aE];have l1:=g2.length;have l2:=h2.length;have l3:=g4.length;have l4:=h4.length;rw [<- l0 (n:=Ef.toArray.size) (m:=its.toArray.size) (by rw [List.size_toArray];omega) (by rw [List.size_toArray];omega) rfl];exact RcAt.tuples gl h3 fO (items (by simp only [D.dep] at hn;omega) (by simp only [D.dep] at oH;omega) g2 h2 g4 h4)
termination_by n=>n
decreasing_by all_goals simp_wf;omega
theorem AI {P:Program} {w:World}:∀ (n:Nat) {A:Around} {s:Shared} {H:Hp} {d e:D} {x y:V} {v u:Value},HOk P w H s.heap->d.dep <= n->e.dep <= n->n < 1000->Rep H d x->Rep H e y->RelV x v->RelV y u->A.units + n < cLine->RcNeAt A s v u (!aE d e)
 | n,A,s,H,d,e,x,y,v,u,hok,hn,oH,eQ,hd,he,rx,ry,hu=>by
  have fO:A.units < cLine:=by omega
  have items:∀ {ds es:List D} {vs us:List V} {its iE:List Value},D.deps ds + 1 <= n->D.deps es + 1 <= n->Reps H ds vs->Reps H es us->Vals vs its->Vals us iE->∀ j (h1:j < its.toArray.size) (h2:j < iE.toArray.size),EqAt A.in1 s its.toArray[j] iE.toArray[j] (zp ds es j):=by
   intro ds es vs us its iE To Li r1 r2 v1 v2 j h1 h2;have l1:=r1.length;have l2:=r2.length;have l3:=v1.length;have l4:=v2.length;rw [List.size_toArray] at h1 h2;obtain ⟨a,ea,ra⟩:=r1.get (j:=j) (by omega);obtain ⟨b,eb,rb⟩:=r2.get (j:=j) (by omega);obtain ⟨va,Ly,Gv⟩:=v1.get ea;obtain ⟨vb,Lx,JS⟩:=v2.get eb;have ga:its.toArray[j]'(by simpa using h1) = va:=by
    rw [List.getElem?_eq_getElem h1] at Ly;simpa using Option.some.inj Ly
   have gb:iE.toArray[j]'(by simpa using h2) = vb:=by
    rw [List.getElem?_eq_getElem h2] at Lx;simpa using Option.some.inj Lx
   rw [ga,gb];have hdj:=D.dep_get ds j;have Tn:=D.dep_get es j;refine oP (ra.noflt Gv) (fun z=>?_) (wj (n - 1) hok (by omega) (by omega) (by omega) ra rb Gv JS (by rw [Around.in1_units];omega));subst z;have:=Gv.inj JS;subst this;have:=ra.inj rb;unfold zp;rw [this];exact eS _
  cases d with
  | dct=>simp only [D.dep] at hn;omega
  | non =>
   simp only [Rep] at hd;subst hd
   cases (show v = Value.none from rx)
   cases e with
   | dct=>simp only [D.dep] at oH;omega
   | non=>simp only [Rep] at he;subst he;cases (show u = Value.none from ry);simp only [aE];exact RcNeAt.none_none
   | bl b=>simp only [Rep] at he;subst he;cases (show u = Value.bool b from ry);simp only [aE];exact RcNeAt.none_bool _
   | int b=>simp only [Rep] at he;subst he;obtain ⟨t,rfl⟩:=ry;simp only [aE];exact RcNeAt.none_int _ _
   | str b=>simp only [Rep] at he;subst he;obtain ⟨t,rfl⟩:=ry;simp only [aE];exact RcNeAt.none_str _ _
   | lst ds=>simp only [Rep] at he;obtain ⟨a,vs,rfl,h1,h2⟩:=he;cases (show u = Value.ref a from ry);obtain ⟨_,its,k,_,h3⟩:=(show ObjOk P w H s.heap a (.lst vs) from hok a _ h1);simp only [aE];exact RcNeAt.none_list (items:=its.toArray) ⟨_,h3,rfl,k,rfl⟩ fO
   | tup ds=>simp only [Rep] at he;obtain ⟨a,vs,rfl,h1,h2⟩:=he;cases (show u = Value.ref a from ry);obtain ⟨_,its,_,h3⟩:=(show ObjOk P w H s.heap a (.tup vs) from hok a _ h1);simp only [aE];exact RcNeAt.none_tuple h3 fO
  | bl c =>
   simp only [Rep] at hd;subst hd
   cases (show v = Value.bool c from rx)
   cases e with
   | dct=>simp only [D.dep] at oH;omega
   | non=>simp only [Rep] at he;subst he;cases (show u = Value.none from ry);simp only [aE];exact RcNeAt.bool_none _
   | bl b=>simp only [Rep] at he;subst he;cases (show u = Value.bool b from ry);simp only [aE];exact RcNeAt.bool_bool _ _
   | int b=>simp only [Rep] at he;subst he;obtain ⟨t,rfl⟩:=ry;simp only [aE];exact RcNeAt.bool_int _ _ _
   | str b=>simp only [Rep] at he;subst he;obtain ⟨t,rfl⟩:=ry;simp only [aE];exact RcNeAt.bool_str _ _ _
   | lst ds=>simp only [Rep] at he;obtain ⟨a,vs,rfl,h1,h2⟩:=he;cases (show u = Value.ref a from ry);obtain ⟨_,its,k,_,h3⟩:=(show ObjOk P w H s.heap a (.lst vs) from hok a _ h1);simp only [aE];exact RcNeAt.bool_list (items:=its.toArray) _ ⟨_,h3,rfl,k,rfl⟩ fO
   | tup ds=>simp only [Rep] at he;obtain ⟨a,vs,rfl,h1,h2⟩:=he;cases (show u = Value.ref a from ry);obtain ⟨_,its,_,h3⟩:=(show ObjOk P w H s.heap a (.tup vs) from hok a _ h1);simp only [aE];exact RcNeAt.bool_tuple _ h3 fO
  | int c =>
   simp only [Rep] at hd;subst hd;obtain ⟨t',rfl⟩:=rx
   cases e with
   | dct=>simp only [D.dep] at oH;omega
   | non=>simp only [Rep] at he;subst he;cases (show u = Value.none from ry);simp only [aE];exact RcNeAt.int_none _ _
   | bl b=>simp only [Rep] at he;subst he;cases (show u = Value.bool b from ry);simp only [aE];exact RcNeAt.int_bool _ _ _
   | int b=>simp only [Rep] at he;subst he;obtain ⟨t,rfl⟩:=ry;simp only [aE];exact RcNeAt.int_int _ _ _ _
   | str b=>simp only [Rep] at he;subst he;obtain ⟨t,rfl⟩:=ry;simp only [aE];exact RcNeAt.int_str _ _ _ _
   | lst ds=>simp only [Rep] at he;obtain ⟨a,vs,rfl,h1,h2⟩:=he;cases (show u = Value.ref a from ry);obtain ⟨_,its,k,_,h3⟩:=(show ObjOk P w H s.heap a (.lst vs) from hok a _ h1);simp only [aE];exact RcNeAt.int_list (items:=its.toArray) _ _ ⟨_,h3,rfl,k,rfl⟩ fO
   | tup ds=>simp only [Rep] at he;obtain ⟨a,vs,rfl,h1,h2⟩:=he;cases (show u = Value.ref a from ry);obtain ⟨_,its,_,h3⟩:=(show ObjOk P w H s.heap a (.tup vs) from hok a _ h1);simp only [aE];exact RcNeAt.int_tuple _ _ h3 fO
  | str c =>
   simp only [Rep] at hd;subst hd;obtain ⟨t',rfl⟩:=rx
   cases e with
   | dct=>simp only [D.dep] at oH;omega
   | non=>simp only [Rep] at he;subst he;cases (show u = Value.none from ry);simp only [aE];exact RcNeAt.str_none _ _
   | bl b=>simp only [Rep] at he;subst he;cases (show u = Value.bool b from ry);simp only [aE];exact RcNeAt.str_bool _ _ _
   | int b=>simp only [Rep] at he;subst he;obtain ⟨t,rfl⟩:=ry;simp only [aE];exact RcNeAt.str_int _ _ _ _
   | str b=>simp only [Rep] at he;subst he;obtain ⟨t,rfl⟩:=ry;simp only [aE];exact RcNeAt.str_str _ _ _ _
   | lst ds=>simp only [Rep] at he;obtain ⟨a,vs,rfl,h1,h2⟩:=he;cases (show u = Value.ref a from ry);obtain ⟨_,its,k,_,h3⟩:=(show ObjOk P w H s.heap a (.lst vs) from hok a _ h1);simp only [aE];exact RcNeAt.str_list (items:=its.toArray) _ _ ⟨_,h3,rfl,k,rfl⟩ fO
   | tup ds=>simp only [Rep] at he;obtain ⟨a,vs,rfl,h1,h2⟩:=he;cases (show u = Value.ref a from ry);obtain ⟨_,its,_,h3⟩:=(show ObjOk P w H s.heap a (.tup vs) from hok a _ h1);simp only [aE];exact RcNeAt.str_tuple _ _ h3 fO
  | lst cs =>
   simp only [Rep] at hd;obtain ⟨b,ws,rfl,g1,g2⟩:=hd
   cases (show v = Value.ref b from rx)
   obtain ⟨_,Ef,m,g4,g3⟩:=(show ObjOk P w H s.heap b (.lst ws) from hok b _ g1);have gl:s.heap.IsList b Ef.toArray:=⟨_,g3,rfl,m,rfl⟩
   cases e with
   | dct=>simp only [D.dep] at oH;omega
   | non=>simp only [Rep] at he;subst he;cases (show u = Value.none from ry);simp only [aE];exact RcNeAt.list_none gl fO
   | bl b=>simp only [Rep] at he;subst he;cases (show u = Value.bool b from ry);simp only [aE];exact RcNeAt.list_bool _ gl fO
   | int b=>simp only [Rep] at he;subst he;obtain ⟨t,rfl⟩:=ry;simp only [aE];exact RcNeAt.list_int _ _ gl fO
   | str b=>simp only [Rep] at he;subst he;obtain ⟨t,rfl⟩:=ry;simp only [aE];exact RcNeAt.list_str _ _ gl fO
   | lst ds =>
    simp only [Rep] at he;obtain ⟨a,vs,rfl,h1,h2⟩:=he
    cases (show u = Value.ref a from ry)
    obtain ⟨_,its,k,h4,h3⟩:=(show ObjOk P w H s.heap a (.lst vs) from hok a _ h1);simp only [aE];have l1:=g2.length;have l2:=h2.length;have l3:=g4.length;have l4:=h4.length
    by_cases hl:cs.length = ds.length
    ·rw [<- fI hl];have e1:cs.length = Ef.toArray.size:=by rw [List.size_toArray];omega
     rw [e1];exact RcNeAt.lists gl ⟨_,h3,rfl,k,rfl⟩ (by rw [List.size_toArray,List.size_toArray];omega) fO (items (by simp only [D.dep] at hn;omega) (by simp only [D.dep] at oH;omega) g2 h2 g4 h4)
    ·rw [iW hl];exact RcNeAt.lists_lengths (items2:=its.toArray) gl ⟨_,h3,rfl,k,rfl⟩ (by rw [List.size_toArray,List.size_toArray];exact bne_iff_ne.mpr (by omega)) fO
   | tup ds=>simp only [Rep] at he;obtain ⟨a,vs,rfl,h1,h2⟩:=he;cases (show u = Value.ref a from ry);obtain ⟨_,its,_,h3⟩:=(show ObjOk P w H s.heap a (.tup vs) from hok a _ h1);simp only [aE];exact RcNeAt.list_tuple gl h3 fO
  | tup cs =>
   simp only [Rep] at hd;obtain ⟨b,ws,rfl,g1,g2⟩:=hd
   cases (show v = Value.ref b from rx)
   obtain ⟨_,Ef,g4,gl⟩:=(show ObjOk P w H s.heap b (.tup ws) from hok b _ g1)
   cases e with
   | dct=>simp only [D.dep] at oH;omega
   | non=>simp only [Rep] at he;subst he;cases (show u = Value.none from ry);simp only [aE];exact RcNeAt.tuple_none gl fO
   | bl b=>simp only [Rep] at he;subst he;cases (show u = Value.bool b from ry);simp only [aE];exact RcNeAt.tuple_bool _ gl fO
   | int b=>simp only [Rep] at he;subst he;obtain ⟨t,rfl⟩:=ry;simp only [aE];exact RcNeAt.tuple_int _ _ gl fO
   | str b=>simp only [Rep] at he;subst he;obtain ⟨t,rfl⟩:=ry;simp only [aE];exact RcNeAt.tuple_str _ _ gl fO
   | lst ds=>simp only [Rep] at he;obtain ⟨a,vs,rfl,h1,h2⟩:=he;cases (show u = Value.ref a from ry);obtain ⟨_,its,k,_,h3⟩:=(show ObjOk P w H s.heap a (.lst vs) from hok a _ h1);simp only [aE];exact RcNeAt.tuple_list (items2:=its.toArray) gl ⟨_,h3,rfl,k,rfl⟩ fO
   | tup ds =>
    simp only [Rep] at he;obtain ⟨a,vs,rfl,h1,h2⟩:=he
    cases (show u = Value.ref a from ry)
    obtain ⟨_,its,h4,h3⟩:=(show ObjOk P w H s.heap a (.tup vs) from hok a _ h1);simp only [aE];have l1:=g2.length;have l2:=h2.length;have l3:=g4.length;have l4:=h4.length;rw [<- l0 (n:=Ef.toArray.size) (m:=its.toArray.size) (by rw [List.size_toArray];omega) (by rw [List.size_toArray];omega) rfl];exact RcNeAt.tuples gl h3 fO (items (by simp only [D.dep] at hn;omega) (by simp only [D.dep] at oH;omega) g2 h2 g4 h4)
section
variable {X:Cx}
def rK:R2:=fun x y H Q=>∃ d e,Rep H d x/\Rep H e y/\d.dep <= 100/\e.dep <= 100/\Q (.bl (aE d e)) H
def pO:R2:=fun x y H Q=>∃ d e,Rep H d x/\Rep H e y/\d.dep <= 100/\e.dep <= 100/\Q (.bl (!aE d e)) H
theorem cZ (hu:X.A.units + 100 < cLine):OpR X (compareOp .Eq) rK:=by
 intro pins s σ H x y v u Q I rx ry h;obtain ⟨d,e,hd,he,hn,oH,q⟩:=h;show wpAny _ _ (richCompare .Eq _ _) _ _ s;exact wj 100 I.hok hn oH (by decide) hd he rx ry hu _ _ _ _ ⟨.bl (aE d e),H,I,rfl,q⟩
theorem d9 (hu:X.A.units + 100 < cLine):OpR X (compareOp .NotEq) pO:=by
 intro pins s σ H x y v u Q I rx ry h;obtain ⟨d,e,hd,he,hn,oH,q⟩:=h;show wpAny _ _ (richCompare .NotEq _ _) _ _ s;exact AI 100 I.hok hn oH (by decide) hd he rx ry hu _ _ _ _ ⟨.bl (!aE d e),H,I,rfl,q⟩
end
end L2
namespace L2
open PySem PySem.Spec PyProof.Rows
variable {X:Cx} {K:W.Frag} {σ r:St} {H:Hp} {D:Ends} {Q:VK} {E:XK} {x v:V} {T:String} {b:Bool} {z:Str} {a p:Addr} {xs vs:List V} {i j:Int} {t:TA} {N:List Str} {sc:Scope} {A:Around} {s:Shared} {n:Nat} {g:TG} {tb:TS} {ix:List Nat}
theorem uH (K:W.Frag):W.kitOne K (.type "NoneType") (.type "str") = some false:=by kernel_rfl
theorem uI (K:W.Frag):W.kitOne K (.type "NoneType") (.type "int") = some false:=by kernel_rfl
theorem pW (K:W.Frag):W.kitOne K (.type "NoneType") (.type "tuple") = some false:=by kernel_rfl
theorem wO (K:W.Frag):W.kitOne K (.type "bool") (.type "str") = some false:=by kernel_rfl
theorem wQ (K:W.Frag):W.kitOne K (.type "bool") (.type "int") = some true:=by kernel_rfl
theorem uN (K:W.Frag):W.kitOne K (.type "bool") (.type "bool") = some true:=by kernel_rfl
theorem sv (K:W.Frag):W.kitOne K (.type "bool") (.type "tuple") = some false:=by kernel_rfl
theorem uL (K:W.Frag):W.kitOne K (.type "int") (.type "str") = some false:=by kernel_rfl
theorem uM (K:W.Frag):W.kitOne K (.type "int") (.type "int") = some true:=by kernel_rfl
theorem sq (K:W.Frag):W.kitOne K (.type "int") (.type "bool") = some false:=by kernel_rfl
theorem pY (K:W.Frag):W.kitOne K (.type "int") (.type "tuple") = some false:=by kernel_rfl
theorem uF (K:W.Frag):W.kitOne K (.type "str") (.type "str") = some true:=by kernel_rfl
theorem uG (K:W.Frag):W.kitOne K (.type "str") (.type "int") = some false:=by kernel_rfl
theorem pV (K:W.Frag):W.kitOne K (.type "str") (.type "tuple") = some false:=by kernel_rfl
theorem uJ (K:W.Frag):W.kitOne K (.type "list") (.type "str") = some false:=by kernel_rfl
theorem uK (K:W.Frag):W.kitOne K (.type "list") (.type "int") = some false:=by kernel_rfl
theorem pX (K:W.Frag):W.kitOne K (.type "list") (.type "tuple") = some false:=by kernel_rfl
theorem uD (K:W.Frag):W.kitOne K (.type "tuple") (.type "str") = some false:=by kernel_rfl
theorem uE (K:W.Frag):W.kitOne K (.type "tuple") (.type "int") = some false:=by kernel_rfl
theorem pU (K:W.Frag):W.kitOne K (.type "tuple") (.type "tuple") = some true:=by kernel_rfl
theorem wM (K:W.Frag):W.kitOne K (.type "dict") (.type "str") = some false:=by kernel_rfl
theorem wN (K:W.Frag):W.kitOne K (.type "dict") (.type "int") = some false:=by kernel_rfl
theorem su (K:W.Frag):W.kitOne K (.type "dict") (.type "tuple") = some false:=by kernel_rfl
section
def CI (K:W.Frag):List V->Hp->VK->Prop:=fun xs H Q=>∃ x T t b,xs = [x,.ty T]/\TyOf K H x t/\W.kitOne K t (.type T) = some b/\Q (.bl b) H
theorem bP:cF X (.builtin "isinstance") (CI X.K):=vm
theorem nZ {t:Value} (ty:TyOf K H x t) (hk:W.kitOne K t (.type T) = some b) (h:Q (.bl b) H):CI K [x,.ty T] H Q:=⟨x,T,t,b,rfl,ty,hk,h⟩
def yI (K:W.Frag):List V->Hp->VK->Prop:=fun xs H Q=>∃ x n,xs = [x]/\MF K x H n/\Q (.int n) H
theorem bO:cF X (.builtin "len") (yI X.K):=Cm
theorem kh (hz:z.length <= sizeLine) (h:Q (.int z.length) H):yI K [.str z] H Q:=⟨_,_,rfl,⟨hz,rfl⟩,h⟩
theorem xH (e:SqL K H a xs) (h:Q (.int xs.length) H):yI K [.ref a] H Q:=⟨_,_,rfl,.inl ⟨xs,e,rfl⟩,h⟩
theorem xG (e:SqT K H a xs) (h:Q (.int xs.length) H):yI K [.ref a] H Q:=⟨_,_,rfl,.inr ⟨xs,e,rfl⟩,h⟩
def GZ:List V->Hp->VK->Prop:=fun xs H Q=>∃ i j,xs = [.int i,.int j]/\Q (.int (max i j)) H
theorem Mx (hc:X.calm = true):cF X (.builtin "max") GZ:=fun pins s σ H xs us Q I r h=>zw hc pins s σ H xs us Q I r (by
 obtain ⟨i,j,e,h⟩:=h;refine ⟨i,j,e,?_⟩;rw [show (if j > i then j else i) = max i j by split <;> omega]
 exact h)
theorem GF (h:Q (.int (max i j)) H):GZ [.int i,.int j] H Q:=⟨i,j,rfl,h⟩
def Fb:List V->Hp->VK->Prop:=fun xs H Q=>∃ i,xs = [.int i]/\i.natAbs.log2 < 1920/\Q (.str (toString i)) H
theorem mh:cF X (.type "str") Fb:=sO
theorem ie (hz:i.natAbs.log2 < 1920) (h:Q (.str (toString i)) H):Fb [.int i] H Q:=⟨i,rfl,hz,h⟩
theorem Dt {sp:Sp} (h:t σ H fun vs H1=>sp vs H1 Q E):nI sp [] E t σ H Q:=by
 unfold nI;simp only [List.append_nil];exact h
def mkT (xs:List V) (H:Hp) (Q:VK):Prop:=xs.length <= sizeLine/\∀ p H1,Same H H1->H1 p = some (.tup xs)->Q (.ref p) H1
def mkL (xs:List V) (H:Hp) (Q:VK):Prop:=xs.length <= sizeLine/\∀ p H1,H p = none->Same H H1->H1 p = some (.lst xs)->Q (.ref p) H1
def zS (t:TA):TE:=fun σ H Q=>t σ H fun xs H1=>mkT xs H1 Q
def zX (t:TA):TE:=fun σ H Q=>t σ H fun xs H1=>mkL xs H1 Q
theorem DM {es:List Expr} {x1} {pos:Pos} (h:PA X es t):PE X (.Tuple es x1 pos) (zS t):=fun pins s σ H Q I hq =>
 wpAny_Tuple_spliced (cp (h pos pins s σ H _ I hq) fun us s1 ⟨xs,H1,I1,r,z,q⟩=>by
  have hf:H1 s1.heap.objs.size = none:=I1.fresh;exact ⟨r.length ▸ z,.ref s1.heap.objs.size,_,I1.laid (o:=.tup xs) (t':=s1.toks) (fun b u=>Heap.get?_push_of_some _) (Nat.le_refl _) ⟨z,us,r,_,Heap.get?_push_size _ rfl,rfl,_,rfl⟩,rfl,q _ _ (bh hf) aC⟩)
theorem DN {es:List Expr} {pos:Pos} (h:PA X es t):PE X (.List es pos) (zX t):=fun pins s σ H Q I hq =>
 wpAny_List_spliced (cp (h pos pins s σ H _ I hq) fun us s1 ⟨xs,H1,I1,r,z,q⟩=>by
  have hf:H1 s1.heap.objs.size = none:=I1.fresh;exact ⟨r.length ▸ z,.ref s1.heap.objs.size,_,I1.laid (o:=.lst xs) (t':=s1.toks) (fun b u=>Heap.get?_push_of_some _) (Nat.le_refl _) ⟨z,us,0,r,Heap.get?_push_size _ rfl⟩,rfl,q _ _ hf (bh hf) aC⟩)
theorem GC (hz:xs.length <= sizeLine) (h:∀ p H1,Same H H1->H1 p = some (.tup xs)->Q (.ref p) H1):mkT xs H Q:=⟨hz,h⟩
theorem GD (hz:xs.length <= sizeLine) (h:∀ p H1,H p = none->Same H H1->H1 p = some (.lst xs)->Q (.ref p) H1):mkL xs H Q:=⟨hz,h⟩
theorem ig (e:SqL K H a xs) (g:mj xs i = some v) (h:Q v H):Fh K (.ref a) (.int i) H Q:=.inl ⟨a,xs,i,v,rfl,rfl,e,g,h⟩
theorem AQ (e:SqT K H a xs) (g:mj xs i = some v) (h:Q v H):Fh K (.ref a) (.int i) H Q:=.inr (.inl ⟨a,xs,i,v,rfl,rfl,e,g,h⟩)
theorem rH {c:Nat} (hz:z.length <= sizeLine) (g:mj z.cps.toList i = some c) (h:Q (.str ⟨#[c]⟩) H):Fh K (.str z) (.int i) H Q:=.inr (.inr ⟨z,i,c,rfl,rfl,hz,g,h⟩)
theorem eY {lo hi:Option Int} (hz:z.length <= sizeLine) (h:Q (.str (Txt.slice z lo hi)) H):yH K (.str z) lo hi H Q:=.inl ⟨z,rfl,hz,h⟩
theorem AN {lo hi:Option Int} (e:SqL K H a xs) (h:∀ p H1,H p = none->Same H H1->H1 p = some (.lst (mT xs lo hi))->Q (.ref p) H1):yH K (.ref a) lo hi H Q :=
 .inr (.inl ⟨a,xs,rfl,e,fun p hp=>h p _ hp (bh hp) aC⟩)
def AZ:R2:=fun x y H Q=>(y = .non/\Q (.bl (decide (x = .non))) H) \/ (∃ i j,x = .bl i/\y = .bl j/\Q (.bl (i == j)) H)
theorem lG:OpR X (compareOp .Is) AZ:=HG.or Bk
theorem GN (h:Q (.bl (decide (x = .non))) H):AZ x .non H Q:=.inl ⟨rfl,h⟩
theorem GQ {i j:Bool} (h:Q (.bl (i == j)) H):AZ (.bl i) (.bl j) H Q:=.inr ⟨i,j,rfl,rfl,h⟩
theorem GW (h:Q (.bl (decide (i = j))) H):rK (.int i) (.int j) H Q:=⟨.int i,.int j,by simp only [Rep],by simp only [Rep],by simp [D.dep],by simp [D.dep],by simp only [aE];rw [Bool.beq_eq_decide_eq];exact h⟩
theorem GV {i j:Str} (h:Q (.bl (decide (i = j))) H):rK (.str i) (.str j) H Q:=⟨.str i,.str j,by simp only [Rep],by simp only [Rep],by simp [D.dep],by simp [D.dep],by simp only [aE];rw [Bool.beq_eq_decide_eq];exact h⟩
theorem GX {i j:Bool} (h:Q (.bl (i == j)) H):rK (.bl i) (.bl j) H Q:=⟨.bl i,.bl j,by simp only [Rep],by simp only [Rep],by simp [D.dep],by simp [D.dep],by simp only [aE];exact h⟩
theorem GA (h:Q (.bl (!decide (i = j))) H):pO (.int i) (.int j) H Q:=⟨.int i,.int j,by simp only [Rep],by simp only [Rep],by simp [D.dep],by simp [D.dep],by simp only [aE];rw [Bool.beq_eq_decide_eq];exact h⟩
theorem Gz {i j:Str} (h:Q (.bl (!decide (i = j))) H):pO (.str i) (.str j) H Q:=⟨.str i,.str j,by simp only [Rep],by simp only [Rep],by simp [D.dep],by simp [D.dep],by simp only [aE];rw [Bool.beq_eq_decide_eq];exact h⟩
theorem GB {i j:Bool} (h:Q (.bl (!(i == j))) H):pO (.bl i) (.bl j) H Q:=⟨.bl i,.bl j,by simp only [Rep],by simp only [Rep],by simp [D.dep],by simp [D.dep],by simp only [aE];exact h⟩
theorem Af {n:Str}:start (n :: N) (v :: vs) = some v :: start N vs:=by simp [start]
theorem Ae {n:Str}:start (n :: N) [] = none :: start N []:=by simp [start,List.replicate_succ]
theorem Ad:start [] [] = []:=rfl
theorem cxK {CX:CQ} {P:Program} {w:World} {mg:Str->Option Value} {base:Heap} {q:Str} {f:Addr} {cd:Value} {outer:List Env}:(gh CX P w K mg base N q sc f cd A outer s H E).nox.K = K:=rfl
theorem Vz {CX:CQ} {P:Program} {w:World} {mg:Str->Option Value} {base:Heap} {q:Str} {f:Addr} {cd:Value} {outer:List Env}:(gh CX P w K mg base N q sc f cd A outer s H E).K = K:=rfl
theorem LD {C:Addr} {ex:List Addr}:(X.comp sc N C s H ex).K = X.K:=rfl
theorem aD {k:Nat} (r:Room k A):A.units + 100 < cLine:=by have:=r.un;omega
theorem aF {p A B:Prop} [Decidable p] (h1:p->A) (h2:¬ p->B):if decide p = true then A else B:=KN (fun h=>h1 (of_decide_eq_true h)) fun h=>h2 (fun z=>h (decide_eq_true z))
theorem dE {p A B:Prop} [Decidable p] (h1:¬ p->A) (h2:p->B):if (!decide p) = true then A else B:=KN (fun h=>h1 (by simpa using h)) fun h=>h2 (by simpa using h)
theorem wU {A B:Prop} (h1:b = false->A) (h2:b = true->B):if (!b) = true then A else B:=by cases b <;> simp_all
end
section
theorem KJ {A B:Prop} (h:B):if (!true) = true then A else B:=by simpa using h
theorem KL {A B:Prop} (h:A):if (!false) = true then A else B:=by simpa using h
def CG (J:It) (g:TG) (tb:TS) (D:Ends) (σ:St) (H:Hp):Prop:=∃ W:Nat->Nat->St->Hp->Prop,(∃ m,W 0 m σ H)/\∀ i m σ H,W i m σ H ->
 (J.stop i H/\D.nx σ H) \/ (J.go i H/\∃ N:St->Hp->Prop,(∀ σ' H',N σ' H'->∃ m',m' < m/\W (i + 1) m' σ' H')/\∀ x H',J.yld i H x H'->g x σ H' fun σ2 H2=>tb { D with nx:=N,ct:=N,bk:=D.nx } σ2 H2)
theorem Dp {t:zH} {R:St->Hp->Prop} (e:SqT K H a xs) (hn:xs.length = n) (h:t xs σ H R):IH K n t (.ref a) σ H R:=⟨a,xs,rfl,e,hn,h⟩
theorem GU {P:Addr->Prop} (e:SqL K H a xs) (h:P a):∃ b,V.ref a = V.ref b/\(∃ xs,SqL K H b xs)/\P b:=⟨a,rfl,⟨xs,e⟩,h⟩
theorem GS {P:Addr->Prop} (e:SqT K H a xs) (h:P a):∃ b,V.ref a = V.ref b/\(∃ xs,SqT K H b xs)/\P b:=⟨a,rfl,⟨xs,e⟩,h⟩
theorem Ds {P:Int->Prop} (h1:-(2 ^ 62) <= j/\j < 2 ^ 62) (h:P j):∃ k:Int,[V.int j] = [.int k]/\-(2 ^ 62) <= k/\k < 2 ^ 62/\P k:=⟨j,rfl,h1.1,h1.2,h⟩
theorem Dr {P:Int->Int->Prop} (h1:-(2 ^ 62) <= i/\i < 2 ^ 62/\-(2 ^ 62) <= j/\j < 2 ^ 62) (h:P i j):∃ i' j':Int,[V.int i,V.int j] = [.int i',.int j']/\(-(2 ^ 62) <= i'/\i' < 2 ^ 62/\-(2 ^ 62) <= j'/\j' < 2 ^ 62)/\P i' j':=⟨i,j,rfl,h1,h⟩
theorem forL (Pv : Nat -> St -> Hp -> Prop) (h0 : Pv 0 σ H) (hl : ∀ i σ H, Pv i σ H -> SqL K H a xs)
    (hs:∀ i x σ H,i < xs.length->xs[i]? = some x->Pv i σ H->g x σ H fun σ2 H2=>tb { nx:=Pv (i + 1),rt:=D.rt,ct:=Pv (i + 1),bk:=D.nx } σ2 H2) (hd:∀ σ H,Pv xs.length σ H->D.nx σ H):CG (EO K a) g tb D σ H :=
 B4 Pv h0 (fun i σ H _=>hl i σ H) (fun i x σ H e p=>hs i x σ H (List.getElem?_eq_some_iff.mp e).1 e p) hd
theorem TU (Pv : Nat -> St -> Hp -> Prop) (h0 : Pv 0 σ H) (hl : ∀ i σ H, Pv i σ H -> SqT K H a xs)
    (hs:∀ i x σ H,i < xs.length->xs[i]? = some x->Pv i σ H->g x σ H fun σ2 H2=>tb { nx:=Pv (i + 1),rt:=D.rt,ct:=Pv (i + 1),bk:=D.nx } σ2 H2) (hd:∀ σ H,Pv xs.length σ H->D.nx σ H):CG (EN K a) g tb D σ H :=
 Er Pv h0 (fun i σ H _=>hl i σ H) (fun i x σ H e p=>hs i x σ H (List.getElem?_eq_some_iff.mp e).1 e p) hd
theorem forR {lo : Int} (Pv : Nat -> St -> Hp -> Prop) (h0 : Pv 0 σ H)
    (hs:∀ i σ H,i < n->Pv i σ H->g (.int (lo + i)) σ H fun σ2 H2=>tb { nx:=Pv (i + 1),rt:=D.rt,ct:=Pv (i + 1),bk:=D.nx } σ2 H2) (hd:∀ σ H,Pv n σ H->D.nx σ H):CG (CC lo n) g tb D σ H :=
 zl Pv h0 hs hd
theorem Es (Pv : Nat -> St -> Hp -> Prop) (h0 : Pv 0 σ H)
    (hs:∀ i c σ H,i < z.cps.toList.length->z.cps.toList[i]? = some c->Pv i σ H->g (.str ⟨#[c]⟩) σ H fun σ2 H2=>tb { nx:=Pv (i + 1),rt:=D.rt,ct:=Pv (i + 1),bk:=D.nx } σ2 H2) (hd:∀ σ H,Pv z.cps.toList.length σ H->D.nx σ H):CG (Jd z) g tb D σ H:=by
 have hl:z.cps.toList.length = z.cps.size:=by simp
 refine ⟨fun i m σ H=>m = z.cps.size - i/\i <= z.cps.size/\Pv i σ H,⟨z.cps.size,by simp,Nat.zero_le _,h0⟩,?_⟩
 rintro i m σ H ⟨rfl,hi,p⟩
 by_cases eQ:i < z.cps.size
 ·refine .inr ⟨eQ,Pv (i + 1),fun σ' H' p'=>⟨z.cps.size - (i + 1),by omega,rfl,eQ,p'⟩,fun x H' y=>?_⟩
  obtain ⟨e,c,hc,e'⟩:=y;subst e e';exact hs i c σ _ (by omega) (by simpa using hc) p
 ·have e:i = z.cps.size:=by omega
  subst e;exact .inl ⟨rfl,hd σ H (by rw [hl];exact p)⟩
theorem Rz {te : TE} (f : Nat -> V) (hz : z.length <= sizeLine) (hE : ∀ c ∈ z.cps.toList, ∀ R : VK, R (f c) H -> te (some (.str ⟨#[c]⟩) :: pick ix σ) H R)
    (hQ:∀ p H1,H p = none->Same H H1->H1 p = some (.lst (z.cps.toList.map f))->Q (.ref p) H1):CB (Jd z) ix σ tH te Q H :=
 HY f (fun _=>true) hz (fun _ _ _ h=>h) (fun c hc _ R h=>hE c hc R h) (fun p hp=>hQ p _ hp (bh hp) (by rw [aC,List.filter_eq_self.mpr (fun _ _=>rfl)]))
def Ka (K:W.Frag):List V->Hp->VK->Prop:=fun xs H Q=>∃ (p:Addr) (bs:List Bool),xs = [.ref p]/\SqL K H p (bs.map V.bl)/\Q (.bl (bs.all id)) H
theorem Cp (hc:X.calm = true):cF X (.builtin "all") (Ka X.K):=Cn hc
theorem wk (bs:List Bool) (e:SqL K H p (bs.map V.bl)) (h:Q (.bl (bs.all id)) H):Ka K [.ref p] H Q:=⟨p,bs,rfl,e,h⟩
end
mutual
def E7:L2.D->Bool
 | .str z=>decide (z.length <= sizeLine)
 | .lst ds=>As ds
 | .tup ds=>As ds
 | _=>true
def As:List L2.D->Bool
 | []=>true
 | d :: ds=>E7 d && As ds
end
def ik (d:L2.D) (lo hi:Int):Bool:=match d with
 | .str z=>gA z lo hi
 | _=>false
def nK:L2.D->Bool
 | .int i=>decide (1 <= i/\i <= 999999999)
 | _=>false
def JB:L2.D->Bool
 | .non=>true
 | d=>ik d 0 40
def oR:L2.D->Bool
 | .tup [a,b,c]=>ik a 1 20 && nK b && JB c
 | _=>false
theorem Same.get {H1:Hp} {o:HO} (s:Same H H1) (e:H p = some o):H1 p = some o:=s p o e
theorem Same.tr {H1 H2:Hp} (s:Same H1 H2) (e:Same H H1):Same H H2:=fun p o h=>s p o (e p o h)
theorem Rep.int':Rep H (.int i) (.int i):=by simp only [Rep]
theorem Rep.str' {i:Str}:Rep H (.str i) (.str i):=by simp only [Rep]
theorem Rep.non':Rep H .non .non:=by simp only [Rep]
theorem Rep.mkT {ds:List L2.D} (h:H p = some (.tup vs)) (r:Reps H ds vs):Rep H (.tup ds) (.ref p):=by simp only [Rep];exact ⟨p,vs,rfl,h,r⟩
theorem Rep.mkL {ds:List L2.D} (h:H p = some (.lst vs)) (r:Reps H ds vs):Rep H (.lst ds) (.ref p):=by simp only [Rep];exact ⟨p,vs,rfl,h,r⟩
theorem Reps.nil':Reps H [] []:=by simp only [Reps]
theorem Reps.cons' {d:L2.D} {ds:List L2.D} (h:Rep H d v) (r:Reps H ds vs):Reps H (d :: ds) (v :: vs):=by simp only [Reps];exact ⟨v,vs,rfl,h,r⟩
theorem Rep.tupE {ds:List L2.D} (h:Rep H (.tup ds) v):∃ a vs,v = .ref a/\H a = some (.tup vs)/\Reps H ds vs:=by simp only [Rep] at h;exact h
theorem Reps.consE {d:L2.D} {ds:List L2.D} (h:Reps H (d :: ds) vs):∃ v r,vs = v :: r/\Rep H d v/\Reps H ds r:=by simp only [Reps] at h;exact h
theorem Reps.nilE (h:Reps H [] vs):vs = []:=by simp only [Reps] at h;exact h
theorem Rep.nonI {d:L2.D} (h:Rep H d v):decide (v = .non) = (match d with | .non=>true | _=>false):=by
 cases d <;> simp only [Rep] at h
 ·subst h;rfl
 ·subst h;rfl
 ·subst h;rfl
 ·subst h;rfl
 ·obtain ⟨_,_,rfl,_⟩:=h;rfl
 ·obtain ⟨_,_,rfl,_⟩:=h;rfl
 ·obtain ⟨_,_,rfl,_⟩:=h;rfl
theorem SqL.same {H':Hp} (s:Same H H') (e:SqL K H a xs):SqL K H' a xs:=s.seq e
class bH (g:Prop) (n:outParam Prop):Prop where
 imp:n->g
theorem JW {g n:Prop} [h:bH g n] (k:n):g:=h.imp k
class GetS (σ:St) (i:Nat) (v:outParam V):Prop where
 get:σ[i]? = some (some v)
instance GetS.zero:GetS (some v :: r) 0 v:=⟨rfl⟩
instance GetS.succ {x:Option V} {i:Nat} [h:GetS r i v]:GetS (x :: r) (i + 1) v:=⟨by rw [List.getElem?_cons_succ];exact h.get⟩
class SetS (σ:St) (i:Nat) (v:Option V) (σ':outParam St):Prop where
 set:σ.set i v = σ'
instance SetS.zero {x v:Option V}:SetS (x :: r) 0 v (v :: r):=⟨rfl⟩
instance SetS.succ {x v:Option V} {r':St} {i:Nat} [h:SetS r i v r']:SetS (x :: r) (i + 1) v (x :: r'):=⟨by rw [List.set_cons_succ,h.set]⟩
class PickS (ix:List Nat) (σ:St) (σ':outParam St):Prop where
 eq:pick ix σ = σ'
instance PickS.nil:PickS [] σ []:=⟨rfl⟩
instance PickS.cons {i:Nat} {ix:List Nat} {σ σ':St} {v:V} [g:GetS σ i v] [h:PickS ix σ σ']:PickS (i :: ix) σ (some v :: σ'):=⟨by
 show ((σ[i]?).join :: pick ix σ) = _;rw [g.get,h.eq]
 rfl⟩
section
variable {σ':St} {t u:TS} {te ta tb tc:TE} {c c':TT} {R:Bool->Hp->Prop} {r r':R2} {a:Bool} {y:Str} {P A B:Prop}
instance i1:bH (zT t u D σ H) (t { D with nx:=u D } σ H):=⟨id⟩
instance i2:bH (Aa te g D σ H) (te σ H fun x H1=>g x σ H1 D.nx):=⟨id⟩
instance i3:bH (CV te D σ H) (te σ H D.rt):=⟨id⟩
instance i5:bH (zY te D σ H) (te σ H fun _ H1=>D.nx σ H1):=⟨id⟩
instance i6:bH (zV D σ H) (D.nx σ H):=⟨id⟩
instance i7:bH (FY c t u D σ H) (c σ H fun b H1=>if b = true then t D σ H1 else u D σ H1):=⟨id⟩
instance i8 [g:GetS σ n v]:bH (pM n σ H Q) (Q v H):=⟨fun h=>⟨v,g.get,h⟩⟩
instance i9:bH (tC v σ H Q) (Q v H):=⟨id⟩
instance i10:bH (yn r ta tb σ H Q) (ta σ H fun x H1=>tb σ H1 fun y H2=>r x y H2 Q):=⟨id⟩
instance i11 {r:V->Hp->VK->Prop}:bH (NK r ta σ H Q) (ta σ H fun x H1=>r x H1 Q):=⟨id⟩
instance i12 {g:Int->Int->V}:bH (zE g (.int i) (.int j) H Q) (Q (g i j) H):=⟨fun h=>⟨i,j,rfl,rfl,h⟩⟩
instance i13 {g:Int->V}:bH (rU g (.int i) H Q) (Q (g i) H):=⟨fun h=>⟨i,rfl,h⟩⟩
instance i14:bH (ij K (.int i) (.int j) H Q) (Q (.int (i + j)) H):=⟨Du⟩
instance i15:bH (AX (.int i) (.int j) H Q) (Q (.bl (decide (i < j))) H):=⟨GH⟩
instance i16:bH (AX (.str z) (.str y) H Q) (Q (.bl (decide (z.cps.toList < y.cps.toList))) H):=⟨GG⟩
instance i17:bH (AY (.int i) (.int j) H Q) (Q (.bl (decide (i <= j))) H):=⟨GK⟩
instance i18:bH (AY (.str z) (.str y) H Q) (Q (.bl (!decide (y.cps.toList < z.cps.toList))) H):=⟨GJ⟩
instance i19:bH (rK (.int i) (.int j) H Q) (Q (.bl (decide (i = j))) H):=⟨GW⟩
instance i20:bH (rK (.str z) (.str y) H Q) (Q (.bl (decide (z = y))) H):=⟨GV⟩
instance i21:bH (rK (.bl a) (.bl b) H Q) (Q (.bl (a == b)) H):=⟨GX⟩
instance i22:bH (pO (.int i) (.int j) H Q) (Q (.bl (!decide (i = j))) H):=⟨GA⟩
instance i23:bH (pO (.str z) (.str y) H Q) (Q (.bl (!decide (z = y))) H):=⟨Gz⟩
instance i24:bH (pO (.bl a) (.bl b) H Q) (Q (.bl (!(a == b))) H):=⟨GB⟩
instance i25:bH (tI te σ H R) (te σ H fun x H'=>∃ k,x = .bl k/\R k H'):=⟨id⟩
instance i26:bH (tB te σ H R) (te σ H fun x H'=>∃ k,x = .bl k/\R k H'):=⟨id⟩
instance i27 {F:Bool->Prop}:bH (∃ c,V.bl a = V.bl c/\F c) (F a):=⟨fun h=>⟨a,rfl,h⟩⟩
instance i28 {F:Int->Prop}:bH (∃ c,V.int i = V.int c/\F c) (F i):=⟨fun h=>⟨i,rfl,h⟩⟩
instance i29 {F:Str->Prop}:bH (∃ c,V.str z = V.str c/\F c) (F z):=⟨fun h=>⟨z,rfl,h⟩⟩
instance i30:bH (F' c c' σ H R) (c σ H fun b H1=>if b = true then c' σ H1 R else R false H1):=⟨id⟩
instance i31:bH (NL c c' σ H R) (c σ H fun b H1=>if b = true then R true H1 else c' σ H1 R):=⟨id⟩
instance i32:bH (FX c σ H R) (c σ H fun b H1=>R (!b) H1):=⟨id⟩
instance i33:bH (Ab ta tb σ H Q) (ta σ H fun x H1=>∃ c,x = .bl c/\if c = true then tb σ H1 Q else Q (.bl false) H1):=⟨id⟩
instance i34:bH (FW ta tb σ H Q) (ta σ H fun x H1=>∃ c,x = .bl c/\if c = true then Q (.bl true) H1 else tb σ H1 Q):=⟨id⟩
instance i35:bH (zU ta σ H Q) (ta σ H fun x H1=>∃ c,x = .bl c/\Q (.bl (!c)) H1):=⟨id⟩
instance i36:bH (NN c ta tb σ H Q) (c σ H fun b H1=>if b = true then ta σ H1 Q else tb σ H1 Q):=⟨id⟩
instance i37:bH (nH r r' ta tb tc σ H Q) (ta σ H fun x H1=>tb σ H1 fun y H2=>r x y H2 fun z H3=>∃ k,z = .bl k/\(if k = true then tc σ H3 fun w' H4=>r' y w' H4 Q else Q (.bl false) H3)):=⟨id⟩
instance i38 {sp:Sp} {t:TA}:bH (nI sp [] E t σ H Q) (t σ H fun vs H1=>sp vs H1 Q E):=⟨Dt⟩
instance i39 {r:List V->Hp->VK->Prop} {t:TA}:bH (F0 r t σ H Q) (t σ H fun vs H1=>r vs H1 Q):=⟨id⟩
instance i40 {F:List V->Hp->Prop}:bH (CW σ H F) (F [] H):=⟨id⟩
instance i41 {tr:TA} {F:List V->Hp->Prop}:bH (tK ta tr σ H F) (ta σ H fun x H1=>tr σ H1 fun xs H2=>F (x :: xs) H2):=⟨id⟩
instance i42 {t:TA}:bH (zS t σ H Q) (t σ H fun xs H1=>mkT xs H1 Q):=⟨id⟩
instance i43 {t:TA}:bH (zX t σ H Q) (t σ H fun xs H1=>mkL xs H1 Q):=⟨id⟩
instance i44:bH (GZ [.int i,.int j] H Q) (Q (.int (max i j)) H):=⟨GF⟩
instance i46:bH (AZ x .non H Q) (Q (.bl (decide (x = .non))) H):=⟨GN⟩
instance i47:bH (AZ (.bl a) (.bl b) H Q) (Q (.bl (a == b)) H):=⟨GQ⟩
instance i50 {r:V->Option Int->Option Int->Hp->VK->Prop} {tl th:TO}:bH (JI r te tl th σ H Q) (te σ H fun x H1=>tl σ H1 fun l H2=>th σ H2 fun u H3=>r x l u H3 Q):=⟨id⟩
instance i51 {F:Option Int->Hp->Prop}:bH (jZ σ H F) (F none H):=⟨id⟩
instance i52 {F:Option Int->Hp->Prop}:bH (tJ te σ H F) (te σ H fun x H1=>∃ i,x = .int i/\F (some i) H1):=⟨id⟩
instance i53:bH (if true = true then A else B) A:=⟨Sw⟩
instance i54:bH (if false = true then A else B) B:=⟨Sx⟩
instance i55:bH (if (!true) = true then A else B) B:=⟨KJ⟩
instance i56:bH (if (!false) = true then A else B) A:=⟨KL⟩
instance i57 {wi:TI}:bH (NM ix wi c te σ H Q) (wi σ H fun J H1=>CB J ix σ c te Q H1):=⟨id⟩
instance i58 {wi:TI}:bH (FZ wi g t D σ H) (wi σ H fun J H1=>CG J g t D σ H1):=⟨id⟩
instance i59 {F:St->Hp->Prop} [s:SetS σ n (some v) σ']:bH (uZ n v σ H F) (F σ' H):=⟨fun h=>by show F (σ.set n (some v)) H;rw [s.set];exact h⟩
instance i60 {F:It->Hp->Prop}:bH (Il te σ H F) (te σ H fun x H1=>∃ z,x = .str z/\F (Jd z) H1):=⟨id⟩
instance i61 {F:It->Hp->Prop}:bH (BL K te σ H F) (te σ H fun x H1=>∃ a,x = .ref a/\(∃ xs,SqL K H1 a xs)/\F (EO K a) H1):=⟨id⟩
instance i62 {F:It->Hp->Prop}:bH (Ik K te σ H F) (te σ H fun x H1=>∃ a,x = .ref a/\(∃ xs,SqT K H1 a xs)/\F (EN K a) H1):=⟨id⟩
instance i63 {t:TA} {F:It->Hp->Prop}:bH (xU t σ H F) (t σ H fun vs H1=>∃ j:Int,vs = [.int j]/\-(2 ^ 62) <= j/\j < 2 ^ 62/\F (CC 0 j.toNat) H1):=⟨id⟩
instance i64 {t:TA} {F:It->Hp->Prop}:bH (xT t σ H F) (t σ H fun vs H1=>∃ i j:Int,vs = [.int i,.int j]/\(-(2 ^ 62) <= i/\i < 2 ^ 62/\-(2 ^ 62) <= j/\j < 2 ^ 62)/\F (CC i (j - i).toNat) H1):=⟨id⟩
instance i65 {F:St->Hp->Prop}:bH (II [] σ H F) (F σ H):=⟨fun h=>⟨rfl,h⟩⟩
instance i66 {gs:zH} {F:St->Hp->Prop}:bH (B3 g gs (v :: vs) σ H F) (g v σ H fun σ' H'=>gs vs σ' H' F):=⟨fun h=>⟨v,vs,rfl,h⟩⟩
instance i68:bH (tH σ H R) (R true H):=⟨id⟩
class dD (n T:String) (b:outParam Bool):Prop where
 eq:∀ K:W.Frag,W.kitOne K (.type n) (.type T) = some b
instance:dD "NoneType" "str" false:=⟨uH⟩
instance:dD "NoneType" "int" false:=⟨uI⟩
instance:dD "NoneType" "tuple" false:=⟨pW⟩
instance:dD "bool" "str" false:=⟨wO⟩
instance:dD "bool" "int" true:=⟨wQ⟩
instance:dD "bool" "bool" true:=⟨uN⟩
instance:dD "bool" "tuple" false:=⟨sv⟩
instance:dD "int" "str" false:=⟨uL⟩
instance:dD "int" "int" true:=⟨uM⟩
instance:dD "int" "bool" false:=⟨sq⟩
instance:dD "int" "tuple" false:=⟨pY⟩
instance:dD "str" "str" true:=⟨uF⟩
instance:dD "str" "int" false:=⟨uG⟩
instance:dD "str" "tuple" false:=⟨pV⟩
instance:dD "list" "str" false:=⟨uJ⟩
instance:dD "list" "int" false:=⟨uK⟩
instance:dD "list" "tuple" false:=⟨pX⟩
instance:dD "tuple" "str" false:=⟨uD⟩
instance:dD "tuple" "int" false:=⟨uE⟩
instance:dD "tuple" "tuple" true:=⟨pU⟩
instance:dD "dict" "str" false:=⟨wM⟩
instance:dD "dict" "int" false:=⟨wN⟩
instance:dD "dict" "tuple" false:=⟨su⟩
instance i70 [k:dD "NoneType" T b]:bH (CI K [.non,.ty T] H Q) (Q (.bl b) H):=⟨nZ .non (k.eq K)⟩
instance i71 [k:dD "bool" T b]:bH (CI K [.bl a,.ty T] H Q) (Q (.bl b) H):=⟨nZ (.bl a) (k.eq K)⟩
instance i72 [k:dD "int" T b]:bH (CI K [.int i,.ty T] H Q) (Q (.bl b) H):=⟨nZ (.int i) (k.eq K)⟩
instance i73 [k:dD "str" T b]:bH (CI K [.str z,.ty T] H Q) (Q (.bl b) H):=⟨nZ (.str z) (k.eq K)⟩
theorem GO [k:dD "list" T b] (e:H p = some (.lst xs)) (h:Q (.bl b) H):CI K [.ref p,.ty T] H Q:=nZ (.lst e) (k.eq K) h
theorem GL [k:dD "tuple" T b] (e:H p = some (.tup xs)) (h:Q (.bl b) H):CI K [.ref p,.ty T] H Q:=nZ (.tup e) (k.eq K) h
theorem GP [k:dD "dict" T b] {xs:List (Key × V)} (e:H p = some (.dK xs)) (h:Q (.bl b) H):CI K [.ref p,.ty T] H Q:=nZ (.dK e) (k.eq K) h
end
end L2
namespace L2
open PySem PySem.Spec PyProof.Rows PySem.SeqAt
open AutoSeq1 (wpAny_loadPart')
end L2
namespace L2
open PySem PySem.Spec PyProof.Rows
variable {X:Cx} {e o tg:Expr} {es:List Expr} {te:TE} {t:TA} {pos p2:Pos} {x z:Str} {v:V} {T:String} {r:R2} {op:CmpOp} {k:Nat} {i:Int} {g:TG} {K:W.Frag} {H:Hp} {Q:VK} {xs:List V} {σ:St} {p:Addr} {b:Bool}
structure BE (X:Cx) (e:Expr) (t:TE):Prop where
 h:PE X e t
structure BT (X:Cx) (e:Expr) (t:TT):Prop where
 h:PT X e t
structure BW (X:Cx) (e:Expr) (t:TT):Prop where
 h:PW X e t
structure BA (X:Cx) (es:List Expr) (t:TA):Prop where
 h:PA X es t
structure BS (X:Cx) (s:Stmt) (t:TS):Prop where
 h:PS X s t
structure zI (X:Cx) (s:List Stmt) (t:TS):Prop where
 h:PSs X s t
structure BG (X:Cx) (e:Expr) (t:TG):Prop where
 h:PG X e t
structure Nz (X:Cx) (e:List Expr) (t:zH):Prop where
 h:MD X e t
structure BI (X:Cx) (tg e:Expr) (t:TI):Prop where
 h:PI X tg e t
structure BO (X:Cx) (e:Option Expr) (t:TO):Prop where
 h:PO X e t
structure BF (X:Cx) (es:List Expr) (t:TT):Prop where
 h:EM X es t
section
variable {a b c:Expr} {ta tb tc:TE} {tA CZ:TT} {p:Pos} {st:Stmt} {rest xs ys:List Stmt} {s u:TS}
theorem bv (i : Nat) (hN : X.N[i]? = some x := by rfl) (hv : Nq X.env.scope x := by first | exact Or.inl rfl | exact Or.inr (Or.inl rfl) | exact Or.inr (Or.inr rfl)) (hd : (x == ("__debug__" : Str)) = false := by decide)
    (jN:(x == ("__classdict__":Str)) = false:=by decide):BE X (.Name x pos) (pM i):=⟨pv i hN hv hd jN⟩
theorem b_int {i j}:BE X (.Constant (.int i) j pos) (tC (.int i)):=⟨Hy⟩
theorem hW {i j}:BE X (.Constant (.bool i) j pos) (tC (.bl i)):=⟨Ko⟩
theorem cD {j}:BE X (.Constant .none j pos) (tC .non):=⟨Hw⟩
theorem b_str {x j}:BE X (.Constant (.str x) j pos) (tC (.str x)):=⟨Hr⟩
theorem dG (h:∃ u,X.mg x = some u/\RelV v u) (hg:Gl X x:=by rfl) (hd:(x == ("__debug__":Str)) = false:=by decide):BE X (.Name x pos) (tC v):=⟨Km h hg hd⟩
theorem jg (hm:X.mg x = none) (hv:bootBuiltins x = some (.type T)) (hg:Gl X x:=by rfl) (hn:x ≠ "__name__":=by decide) (hd:(x == ("__debug__":Str)) = false:=by decide):BE X (.Name x pos) (tC (.ty T)):=⟨Kh hm hv hg hn hd⟩
theorem ar {op:Operator} (ho:OpR X (binaryOp op) r) (ha:BE X a ta) (hb:BE X b tb):BE X (.BinOp a op b pos) (yn r ta tb):=⟨Kj ho ha.h hb.h⟩
theorem IW {op:UnaryOp} {r:V->Hp->VK->Prop} (ho:Nr X (unaryOp op) r) (ha:BE X a ta):BE X (.UnaryOp op a pos) (NK r ta):=⟨Kg ho ha.h⟩
theorem FL (ha:BE X a ta):BE X (.UnaryOp .Not a pos) (zU ta):=⟨Hv ha.h⟩
theorem gi (ho:OpR X (compareOp op) r) (ha:BE X a ta) (hb:BE X b tb) (hm:behindInMarks op b = false):BE X (.Compare a [op] [b] pos) (yn r ta tb):=⟨DS ho ha.h hb.h hm⟩
theorem yd {wz:CmpOp} {r':R2} (ho:OpR X (compareOp op) r) (uQ:OpR X (compareOp wz) r') (ha:BE X a ta) (hb:BE X b tb) (hc:BE X c tc) (hm:lastMarks [op,wz] [b,c] = false:=by with_unfolding_all rfl):BE X (.Compare a [op,wz] [b,c] pos) (nH r r' ta tb tc):=⟨Be ho uQ ha.h hb.h hc.h hm⟩
theorem kF {op} (h:BE X a ta):BE X (.BoolOp op [a] pos) ta:=⟨Hu h.h⟩
theorem mi (ha:BE X a ta) (hb:BE X (.BoolOp .And (b :: es) pos) tb):BE X (.BoolOp .And (a :: b :: es) pos) (Ab ta tb):=⟨Hz ha.h hb.h⟩
theorem Wm (ha:BE X a ta) (hb:BE X (.BoolOp .Or (b :: es) pos) tb):BE X (.BoolOp .Or (a :: b :: es) pos) (FW ta tb):=⟨Ki ha.h hb.h⟩
theorem IY (hc:BT X c tA) (ha:BE X a ta) (hb:BE X b tb):BE X (.IfExp c a b pos) (NN tA ta tb):=⟨Bc hc.h ha.h hb.h⟩
theorem ae:BA X [] CW:=⟨HA⟩
theorem ag (ha:BE X e te) (hr:BA X es t) (h:isStar e = false):BA X (e :: es) (tK te t):=⟨PF ha.h hr.h h⟩
theorem fj (h:BA X es t):BE X (.List es pos) (zX t):=⟨DN h.h⟩
theorem fJ {x1} (h:BA X es t):BE X (.Tuple es x1 pos) (zS t):=⟨DM h.h⟩
theorem cf:BO X none jZ:=⟨DF⟩
theorem bD (h:BE X e te):BO X (some e) (tJ te):=⟨DE h.h⟩
theorem bS {lo hi:Option Expr} {tl th:TO} {r:V->Option Int->Option Int->Hp->VK->Prop} (hr:SlR X r) (he:BE X e te) (hl:BO X lo tl) (hu:BO X hi th):BE X (.Subscript e (.Slice lo hi none p2) pos) (JI r te tl th):=⟨Bb hr he.h hl.h hu.h⟩
theorem aI (hr:IxR X r) (ha:BE X a ta) (hb:BE X b tb) (hs:yg b):BE X (.Subscript a b pos) (yn r ta tb):=⟨Kl hr ha.h hb.h hs⟩
theorem bT {sf : Stmt} {ps : List Str} {f : Addr} {fd : FuncData} {sp : Sp} (N : Fn X.K X.mg x sf ps f fd) (G : FnOk X.prog X.w X.K X.mg X.base cB k f fd ps sp) (hr : Room k X.A) (ha : BA X (e :: es) t) (hg : Gl X x := by rfl) (sJ : (x == ("__debug__" : Str)) = false := by decide) (h1 : isStar e = false := by rfl) (h2 : noStar es = true := by rfl) :
    BE X (.Call (.Name x p) (e :: es) [] pos) (nI sp [] E0 t):=⟨PC N G hr ha.h hg sJ h1 h2⟩
theorem dH {id : String} {r : List V -> Hp -> VK -> Prop} (hc : cF X (.builtin id) r) (hm : X.mg x = none) (hv : bootBuiltins x = some (.builtin id)) (ha : BA X (e :: es) t) (hg : Gl X x := by rfl) (hn : x ≠ "__name__" := by decide) (sJ : (x == ("__debug__" : Str)) = false := by decide) (h1 : isStar e = false := by rfl) (h2 : noStar es = true := by rfl) :
    BE X (.Call (.Name x p) (e :: es) [] pos) (F0 r t):=⟨PD hc hm hv ha.h hg hn sJ h1 h2⟩
theorem yc {r : List V -> Hp -> VK -> Prop} (hc : cF X (.type T) r) (hm : X.mg x = none) (hv : bootBuiltins x = some (.type T)) (ha : BA X (e :: es) t) (hg : Gl X x := by rfl) (hn : x ≠ "__name__" := by decide) (sJ : (x == ("__debug__" : Str)) = false := by decide) (h1 : isStar e = false := by rfl) (h2 : noStar es = true := by rfl) :
    BE X (.Call (.Name x p) (e :: es) [] pos) (F0 r t):=⟨PB hc hm hv ha.h hg hn sJ h1 h2⟩
theorem ya (hm:X.mg "range" = none) (ha:BA X [a] t) (hg:Gl X "range":=by rfl) (h1:isStar a = false:=by rfl):BI X tg (.Call (.Name "range" p) [a] [] pos) (xU t):=⟨Kf hm ha.h hg h1⟩
theorem Mz (hm:X.mg "range" = none) (ha:BA X [a,b] t) (hg:Gl X "range":=by rfl) (h1:isStar a = false:=by rfl) (h2:isStar b = false:=by rfl):BI X tg (.Call (.Name "range" p) [a,b] [] pos) (xT t):=⟨Ke hm ha.h hg h1 h2⟩
theorem d5 (h:BE X e te):BI X tg e (BL X.K te):=⟨DI h.h⟩
theorem oY (h:BE X e te):BI X tg e (Ik X.K te):=⟨Hm h.h⟩
theorem jR (h:BE X e te):BI X tg e (Il te):=⟨Hn h.h⟩
theorem dA:BF X [] tH:=⟨A8⟩
theorem IV (h:BT X c tA):BF X [c] tA:=⟨A7 h.h⟩
theorem jh {elt iter : Expr} {ifs : List Expr} {px : Pos} {scope osc : Scope} {fv : List Str} {ix : List Nat} {wi : TI} {tt : TT} (hc : X.calm = true) (S₀ : LcScope scope x fv osc) (Jr : ix.map (fun i => X.N[i]?) = fv.map some) (hi : BI X (.Name x px) iter wi)
    (ht:∀ (C:Addr) (s₀:Shared) (H₀:Hp) (ex:List Addr),BF (X.comp scope (x :: fv) C s₀ H₀ ex) ifs tt) (he:∀ (C:Addr) (s₀:Shared) (H₀:Hp) (ex:List Addr),BE (X.comp scope (x :: fv) C s₀ H₀ ex) elt te)
    (Iq:X.env.scope = osc:=by rfl) (hs:∀ x,foldedSetIterable iter X.env x = pure x:=by intro _;rfl):BE X (.ListComp elt [⟨.Name x px,iter,ifs,0⟩] scope pos) (NM ix wi tt te) :=
 ⟨Kk hc S₀ Jr hi.h (fun C s₀ H₀ ex=>(ht C s₀ H₀ ex).h) (fun C s₀ H₀ ex=>(he C s₀ H₀ ex).h) Iq hs⟩
theorem aB (ho:OpR X (compareOp op) r) (ha:BE X a ta) (hb:BE X b tb) (hm:behindInMarks op b = false):BT X (.Compare a [op] [b] pos) (tI (yn r ta tb)):=⟨Dz ho ha.h hb.h hm⟩
theorem Cq {wz:CmpOp} {r':R2} (ho:OpR X (compareOp op) r) (uQ:OpR X (compareOp wz) r') (ha:BE X a ta) (hb:BE X b tb) (hc:BE X c tc) (hm:lastMarks [op,wz] [b,c] = false:=by with_unfolding_all rfl):BT X (.Compare a [op,wz] [b,c] pos) (tI (nH r r' ta tb tc)):=⟨A3 ho uQ ha.h hb.h hc.h hm⟩
theorem bC (h:BE X e te) (he:∀ whole,isTrue e X.env whole = (do let v <- whole;standAt e.pos;holding [v] (truthy v))):BT X e (tB te):=⟨Ha h.h he⟩
theorem cH (h:BT X a tA):BT X (.UnaryOp .Not a pos) (FX tA):=⟨Hb h.h⟩
theorem gM (h:BW X e tA):BT X e tA:=⟨h.h.pt⟩
theorem gK (h:BT X a tA):BW X (.BoolOp .And [a] pos) tA:=⟨Dv h.h⟩
theorem eE (h:BT X a tA):BW X (.BoolOp .Or [a] pos) tA:=⟨G0 h.h⟩
theorem jQ (ha:BT X a tA) (hb:BW X (.BoolOp .And (b :: es) pos) CZ):BW X (.BoolOp .And (a :: b :: es) pos) (F' tA CZ):=⟨G' ha.h hb.h⟩
theorem eJ (ha:BT X a tA) (hb:BW X (.BoolOp .Or (b :: es) pos) CZ):BW X (.BoolOp .Or (a :: b :: es) pos) (NL tA CZ):=⟨Kb ha.h hb.h⟩
theorem av:zI X [] zV:=⟨DB⟩
theorem af (h1:BS X st s) (h2:zI X rest u):zI X (st :: rest) (zT s u):=⟨A4 h1.h h2.h⟩
theorem ah (h:BS X st s):zI X [st] s:=⟨DA h.h⟩
theorem da:BS X st zW:=⟨A5⟩
theorem nz (h:BE X e te) (hs:swapsWith e none pos.line X.env = pure false:=by rfl):BS X (.Expr e pos) (zY te):=⟨DC h.h hs⟩
theorem ai (h:BE X e te):BS X (.Return (some e) pos) (CV te):=⟨He h.h⟩
theorem aH (hc:BT X c tA) (ha:zI X xs s) (hb:zI X ys u):BS X (.If c xs ys pos) (FY tA s u):=⟨Kc hc.h ha.h hb.h⟩
theorem ak {i : Nat} {pos' : Pos} (hN : X.N.Nodup) (hi : X.N[i]? = some x) (hx : Loc X.env.scope x) (he : BE X e te) (hs : swapsWith e (some (.Name x pos')) pos.line X.env = pure false := by rfl) (hf : X.fn x = true \/ X.env.scope.names.lookup x = some .local := by first | exact .inl rfl | exact .inr rfl | assumption) :
    BS X (.Assign [.Name x pos'] e pos) (Aa te (uZ i)):=⟨Hc hN hi hx he.h hs hf⟩
theorem cJ {i:Nat} (hN:X.N.Nodup) (hi:X.N[i]? = some x) (hx:Loc X.env.scope x) (hf:X.fn x = true \/ X.env.scope.names.lookup x = some .local:=by first | exact .inl rfl | exact .inr rfl | assumption):BG X (.Name x pos) (uZ i):=⟨DK hN hi hx hf⟩
theorem EF:Nz X [] II:=⟨DJ⟩
theorem vp {gs:zH} (h1:BG X e g) (h2:Nz X es gs) (hs:(assignEach (e :: es) X.env).map (·.2) = assign e X.env :: (assignEach es X.env).map (·.2):=by rfl):Nz X (e :: es) (B3 g gs):=⟨A' h1.h h2.h hs⟩
theorem IU {gs:zH} {n:Nat} (hc:X.calm = true) (h:Nz X es gs) (hn:(assignEach es X.env).length = n:=by rfl) (xX:(assignEach es X.env).findIdx? (·.1) = none:=by rfl):BG X (.Tuple es k pos) (IH X.K n gs):=⟨Ho hc h.h hn xX⟩
theorem IS (he:BE X e te) (hg:BG X tg g) (hs:swapsWithSole [tg] e pos.line X.env = pure false:=by rfl) (hw:swappedStores [tg] e X.env = pure none:=by rfl) (h1:(assignEach [tg] X.env).map (·.2) = [assign tg X.env]:=by rfl):BS X (.Assign [tg] e pos) (Aa te g):=⟨Hg he.h hg.h hs hw h1⟩
theorem eF {iter:Expr} {wi:TI} (hp:PassesOwn (model X.prog X.w) X.A X.env X.xe) (hc:X.calm = true) (hi:BI X tg iter wi) (hg:BG X tg g) (hb:zI X xs s) (hs:∀ x,foldedSetIterable iter X.env x = pure x:=by intro _;rfl):BS X (.For tg iter xs [] pos) (FZ wi g s):=⟨Hf hp hc hi.h hg.h hb.h hs⟩
end
instance k0 {A B:Prop}:bH (if (true == true) = true then A else B) A:=⟨fun h=>by simpa using h⟩
instance k1 {A B:Prop}:bH (if (true != true) = true then A else B) B:=⟨fun h=>by simpa using h⟩
instance k2 {A B:Prop}:bH (if (true == false) = true then A else B) B:=⟨fun h=>by simpa using h⟩
instance k3 {A B:Prop}:bH (if (true != false) = true then A else B) A:=⟨fun h=>by simpa using h⟩
instance k4 {A B:Prop}:bH (if (false == true) = true then A else B) B:=⟨fun h=>by simpa using h⟩
instance k5 {A B:Prop}:bH (if (false != true) = true then A else B) A:=⟨fun h=>by simpa using h⟩
instance k6 {A B:Prop}:bH (if (false == false) = true then A else B) A:=⟨fun h=>by simpa using h⟩
instance k7 {A B:Prop}:bH (if (false != false) = true then A else B) B:=⟨fun h=>by simpa using h⟩
theorem nj {a:Addr} (e:SqL K H a xs) (h0:0 <= i) (h1:i < xs.length) (h:∀ v ∈ xs,Q v H):Fh K (.ref a) (.int i) H Q:=by
 obtain ⟨j,rfl⟩:∃ j:Nat,i = j:=⟨i.toNat,by omega⟩;have hj:j < xs.length:=by omega
 exact ig e (d6 (List.getElem?_eq_getElem hj)) (h _ (List.getElem_mem hj))
section
variable {P:Program} {w:World} {mg:Str->Option Value} {base:Heap}
theorem Fun.okB {qual : Str} {st : Stmt} {f : Addr} {fd : FuncData} {N ps : List Str} {sp : Sp} (F : Fun K x qual st f fd) (S : ao N ps (aa st)) (len : ∀ vs H Q E, sp vs H Q E -> vs.length = ps.length)
    (fe:∀ (bA:Value) (A:Around) (outer:List Env) (s:Shared) (H:Hp) (vs:List V) (Q:VK) (E:XK),Room k (A.deeper (envOfC qual (aa st) s.heap.objs.size f bA))->sp vs H Q E ->
     ∃ t,zI (gh cB P w K mg base N qual (aa st) f bA A outer s H E).nox (aj st) t/\t { nx:=fun _ H'=>Q .non H',rt:=Q } (start N vs) H):FnOk P w K mg base cB (k + 1) f fd ps sp :=
 F.ok S len fun bA A outer s H vs Q E hr hs=>let ⟨t,h,q⟩:=fe bA A outer s H vs Q E hr hs;⟨t,h.h,q⟩
end
section
variable {to:TE} {apos cz:Pos}
def KO {α:Type} (k:Nat) (y:α) (xs:List α):List α:=xs.take k ++ y :: xs.drop k
theorem lQ (ho : BE X o to) (ha : BA X (e :: es) t) (fg : attributeBase o "append" X.env (eval o X.env) = eval o X.env := by rfl)
    (jM:((backTo cz (starEach (e :: es) X.env)).all (fun x=>!x.1) && (backToKw cz (keywordEach [] X.env)).all (fun x=>x.1.isSome)
     && decide ((e :: es).length + ([]:List Keyword).length + (if ([]:List Keyword).isEmpty then 0 else 1) < 30)) = true:=by rfl)
    (fb:(apos.endLine == cz.line) = true:=by rfl) (h1:isStar e = false:=by rfl) (h2:noStar es = true:=by rfl) :
    BE X (.Call (.Attribute o "append" apos) (e :: es) [] cz) (CY X.K "list" rL to t) :=
 ⟨oe F.plainAttrs_list F.slot_list_append F.type_list_append yY ho.h ha.h fg jM fb (aJ h1) (cC h2)⟩
instance j1 {r:V->List V->Hp->VK->Prop}:bH (CY K T r to t σ H Q) (to σ H fun x H1=>MK K T x H1/\t σ H1 fun xs H2=>r x xs H2 Q):=⟨id⟩
theorem GY {P:Prop} (e:H p = some (.lst xs)) (h:P):MK K "list" (.ref p) H/\P:=⟨.inl ⟨rfl,_,SqL.of e⟩,h⟩
theorem iU {l:Addr} {y:V} (e:H l = some (.lst xs)) (hz:xs.length < sizeLine) (h:Q .non (upd H l (.lst (xs ++ [y])))):rL (.ref l) [y] H Q:=⟨l,xs,y,rfl,rfl,e,hz,h⟩
instance j3 {A B:Prop}:bH (if (!(b == b)) = true then A else B) B:=⟨fun h=>by simpa using h⟩
instance GetS.pick {ix:List Nat} {σ':St} {i:Nat} [p:PickS ix σ σ'] [g:GetS σ' i v]:GetS (pick ix σ) i v:=⟨by rw [p.eq];exact g.get⟩
end
instance n0 {A B:Prop} :bH (if decide ((.non:V) = .non) = true then A else B) A:=⟨fun h=>by simpa using h⟩
instance n1 {A B:Prop} :bH (if (!decide ((.non:V) = .non)) = true then A else B) B:=⟨fun h=>by simpa using h⟩
instance n2 {A B:Prop}:bH (if decide (((.ref p):V) = .non) = true then A else B) B:=⟨fun h=>by simpa using h⟩
instance n3 {A B:Prop}:bH (if (!decide (((.ref p):V) = .non)) = true then A else B) A:=⟨fun h=>by simpa using h⟩
instance n4 {A B:Prop}:bH (if decide (((.int i):V) = .non) = true then A else B) B:=⟨fun h=>by simpa using h⟩
instance n5 {A B:Prop}:bH (if (!decide (((.int i):V) = .non)) = true then A else B) A:=⟨fun h=>by simpa using h⟩
instance n6 {A B:Prop}:bH (if decide (((.str z):V) = .non) = true then A else B) B:=⟨fun h=>by simpa using h⟩
instance n7 {A B:Prop}:bH (if (!decide (((.str z):V) = .non)) = true then A else B) A:=⟨fun h=>by simpa using h⟩
instance n8 {A B:Prop}:bH (if decide (((.bl b):V) = .non) = true then A else B) B:=⟨fun h=>by simpa using h⟩
instance n9 {A B:Prop}:bH (if (!decide (((.bl b):V) = .non)) = true then A else B) A:=⟨fun h=>by simpa using h⟩
section
theorem rW (h:X.K = K):OpR X (binaryOp .Add) (ij K):=h ▸ aG
theorem gG (h:X.K = K):IxR X (Fh K):=h ▸ au
theorem IQ (h:X.K = K):cF X (.builtin "len") (yI K):=h ▸ bO
theorem qW (h:X.K = K):cF X (.builtin "isinstance") (CI K):=h ▸ bP
end
abbrev Ent:=Str × Int × L2.D
def aK (e:Ent):L2.D:=.tup [.str e.1,.int e.2.1,e.2.2]
theorem Reps.at {H:Hp} {α:Type} {f:α->L2.D}:∀ {es:List α} {vs:List V} {j:Nat} {v:V},Reps H (es.map f) vs->vs[j]? = some v->∃ e,es[j]? = some e/\Rep H (f e) v
 | [],vs,j,v,h,e=>by
  rw [List.map_nil] at h;rw [h.nilE] at e;simp at e
 | x :: es,vs,j,v,h,e=>by
  rw [List.map_cons] at h;obtain ⟨u,r,rfl,h1,h2⟩:=h.consE
  cases j with
  | zero =>
   simp at e;subst e;exact ⟨x,rfl,h1⟩
  | succ j =>
   obtain ⟨y,e1,e2⟩:=Reps.at (es:=es) (j:=j) h2 (by simpa using e);exact ⟨y,by simpa using e1,e2⟩
theorem fX {H1:Hp} {l:Addr} {o:HO} (s:Same H H1) (h:H l = none):Same H (upd H1 l o):=fun b u e=>by
 rw [ay (cS e h)];exact s b u e
theorem Reps.take {H:Hp}:∀ {ds:List L2.D} {vs:List V} (n:Nat),Reps H ds vs->Reps H (ds.take n) (vs.take n)
 | ds,vs,0,_=>by rw [List.take_zero,List.take_zero];exact Reps.nil'
 | [],vs,n + 1,h=>by rw [h.nilE];exact Reps.nil'
 | d :: ds,vs,n + 1,h=>by
  obtain ⟨v,r,rfl,h1,h2⟩:=h.consE;exact Reps.cons' h1 (Reps.take n h2)
theorem Reps.drop {H:Hp}:∀ {ds:List L2.D} {vs:List V} (n:Nat),Reps H ds vs->Reps H (ds.drop n) (vs.drop n)
 | ds,vs,0,h=>h
 | [],vs,n + 1,h=>by rw [h.nilE];exact Reps.nil'
 | d :: ds,vs,n + 1,h=>by
  obtain ⟨v,r,rfl,h1,h2⟩:=h.consE;exact Reps.drop n h2
theorem Reps.append {H:Hp}:∀ {ds es:List L2.D} {vs us:List V},Reps H ds vs->Reps H es us->Reps H (ds ++ es) (vs ++ us)
 | [],es,vs,us,h,h'=>by rw [h.nilE];exact h'
 | d :: ds,es,vs,us,h,h'=>by
  obtain ⟨v,r,rfl,h1,h2⟩:=h.consE;exact Reps.cons' h1 (Reps.append h2 h')
theorem Reps.ins {H:Hp} {ds:List L2.D} {vs:List V} {d:L2.D} {v:V} (k:Nat) (h:Reps H ds vs) (h1:Rep H d v):Reps H (KO k d ds) (KO k v vs):=(h.take k).append (Reps.cons' h1 (h.drop k))
section
variable {to:TE} {apos cz:Pos}
def ES (i j:Int):Prop:=0 <= j/\(Builtin.Int.intBits i:Int) + j <= 2 ^ 27
theorem xK:OpR X (binaryOp .LShift) (rI ES fun i j=>.int (i * 2 ^ j.toNat)):=Ks fun _ _ _ _ _ _ _ hc q=>lshift_int hc.1 hc.2 q
theorem ni {j:Int} (hc:ES i j) (h:Q (.int (i * 2 ^ j.toNat)) H):rI ES (fun i j=>.int (i * 2 ^ j.toNat)) (.int i) (.int j) H Q:=⟨i,j,rfl,rfl,hc,h⟩
def A0:V->List V->Hp->VK->Prop:=fun x vs H Q=>∃ z y i r,x = .str z/\vs = [.str y]/\Builtin.Str.occurrences z y 0 z.length 1 = i :: r/\Q (.int (i:Nat)) H
theorem yX:Jc X "str.index" A0:=by
 intro pins s σ H x vs v us Q I rx rv h;obtain ⟨z,y,i,r,rfl,rfl,ho,q⟩:=h;obtain ⟨t,rfl⟩:=rx;obtain ⟨u,rfl,t',rfl⟩:=rv.one;exact call_gives F.slot_str_index (typeIs_str s z t) F.entry_str_index (F.args_str_index_2 _ _) (gives_str_index z y t t' i r ho) ⟨.int i,H,I.tok _,⟨_,rfl⟩,q⟩
def rJoin (K:W.Frag):V->List V->Hp->VK->Prop:=fun x vs H Q=>∃ z p ys,x = .str z/\vs = [.ref p]/\SqL K H p (ys.map V.str)/\(ys.map (·.length)).sum + ys.length * z.length <= 16777216/\Q (.str (Txt.join z ys)) H
theorem strsAre_of:∀ {ys:List Str} {us:List Value},Vals (ys.map V.str) us->StrsAre us ys
 | [],_,r=>by rw [List.map_nil] at r;cases r;exact .nil
 | y :: ys,_,r=>by
  rw [List.map_cons] at r
  cases r with
  | cons r1 r2 =>
   obtain ⟨t,rfl⟩:=r1;exact .cons y t (strsAre_of r2)
theorem D6:Jc X "str.join" (rJoin X.K):=by
 intro pins s σ H x vs v us Q I rx rv h;obtain ⟨z,p,ys,rfl,rfl,hp,hz,q⟩:=h;obtain ⟨t,rfl⟩:=rx;obtain ⟨u,rfl,ru⟩:=rv.one
 cases (show u = Value.ref p from ru)
 obtain ⟨its,r,pl,_⟩:=I.list hp;exact join_list pl.isList (by simpa using strsAre_of r) hz fun t' k=>⟨.str (Txt.join z ys),H,I.tok _,⟨_,rfl⟩,q⟩
def Fd:V->List V->Hp->VK->Prop:=fun x vs H Q=>∃ z y,x = .str z/\vs = [.str y]/\(y.length == 0) = false/\z.length <= sizeLine/\∀ p H1,Same H H1->H1 p = some (.tup [.str (Txt.partition z y).1,.str (Txt.partition z y).2.1,.str (Txt.partition z y).2.2])->Q (.ref p) H1
theorem D5:Jc X "str.partition" Fd:=by
 intro pins s σ H x vs v us Q I rx rv h;obtain ⟨z,y,rfl,rfl,hy,hz,q⟩:=h;obtain ⟨t,rfl⟩:=rx;obtain ⟨u,rfl,t',rfl⟩:=rv.one;have fin:∀ (vs:List Value) (tk:Nat),Vals [.str (Txt.partition z y).1,.str (Txt.partition z y).2.1,.str (Txt.partition z y).2.2] vs->EP X pins σ Q (.ref s.heap.objs.size) { s with toks:=tk,heap:=s.heap.push { cls:=.type "tuple",data:=.seq vs.toArray } }:=fun vs tk rv =>
  ⟨.ref s.heap.objs.size,_,I.laid (o:=.tup _) (t':=tk) (fun b u=>Heap.get?_push_of_some _) (Nat.le_refl _) ⟨by simp only [List.length_cons,List.length_nil];decide,vs,rv,_,Heap.get?_push_size _ rfl,rfl,_,rfl⟩,rfl,q _ _ (bh I.fresh) aC⟩
 refine call_meets F.slot_str_partition (typeIs_str s z t) F.entry_str_partition (F.args_str_partition_2 _ _) (meets_str_partition z y t t' hy hz) ?_;unfold Txt.partition at fin
 revert fin
 cases Builtin.Str.occurrences z y 0 z.length 1 with
 | nil=>intro fin;exact fin _ _ (.cons ⟨_,rfl⟩ (.cons ⟨_,rfl⟩ (.cons ⟨_,rfl⟩ .nil)))
 | cons i r=>intro fin;exact fin _ _ (.cons ⟨_,rfl⟩ (.cons ⟨_,rfl⟩ (.cons ⟨_,rfl⟩ .nil)))
def Fi:List V->Hp->VK->Prop:=fun xs H Q=>∃ z n,xs = [.str z]/\PySem.intText? z = some n/\z.length <= 640/\Q (.int n) H
theorem My:cF X (.type "int") Fi:=by
 intro pins s σ H xs us Q I r h;obtain ⟨z,n,rfl,hn,hz,q⟩:=h;obtain ⟨u,rfl,t,rfl⟩:=vals1 r;exact W.KIN.call_text hn hz ⟨.int n,H,I.tok _,⟨_,rfl⟩,q⟩
theorem Dn {n:Int} (hn:PySem.intText? z = some n) (hz:z.length <= 640) (h:Q (.int n) H):Fi [.str z] H Q:=⟨z,n,rfl,hn,hz,h⟩
theorem Ct (ho : BE X o to) (ha : BA X (e :: es) t) (fg : attributeBase o "index" X.env (eval o X.env) = eval o X.env := by rfl)
    (jM:((backTo cz (starEach (e :: es) X.env)).all (fun x=>!x.1) && (backToKw cz (keywordEach [] X.env)).all (fun x=>x.1.isSome)
     && decide ((e :: es).length + ([]:List Keyword).length + (if ([]:List Keyword).isEmpty then 0 else 1) < 30)) = true:=by rfl)
    (fb:(apos.endLine == cz.line) = true:=by rfl) (h1:isStar e = false:=by rfl) (h2:noStar es = true:=by rfl) :
    BE X (.Call (.Attribute o "index" apos) (e :: es) [] cz) (CY X.K "str" A0 to t) :=
 ⟨oe F.plainAttrs_str F.slot_str_index F.type_str_index yX ho.h ha.h fg jM fb (aJ h1) (cC h2)⟩
theorem kE (ho : BE X o to) (ha : BA X (e :: es) t) (fg : attributeBase o "join" X.env (eval o X.env) = eval o X.env := by rfl)
    (jM:((backTo cz (starEach (e :: es) X.env)).all (fun x=>!x.1) && (backToKw cz (keywordEach [] X.env)).all (fun x=>x.1.isSome)
     && decide ((e :: es).length + ([]:List Keyword).length + (if ([]:List Keyword).isEmpty then 0 else 1) < 30)) = true:=by rfl)
    (fb:(apos.endLine == cz.line) = true:=by rfl) (h1:isStar e = false:=by rfl) (h2:noStar es = true:=by rfl) :
    BE X (.Call (.Attribute o "join" apos) (e :: es) [] cz) (CY X.K "str" (rJoin X.K) to t) :=
 ⟨oe F.plainAttrs_str F.slot_str_join F.type_str_join D6 ho.h ha.h fg jM fb (aJ h1) (cC h2)⟩
theorem kD (ho : BE X o to) (ha : BA X (e :: es) t) (fg : attributeBase o "partition" X.env (eval o X.env) = eval o X.env := by rfl)
    (jM:((backTo cz (starEach (e :: es) X.env)).all (fun x=>!x.1) && (backToKw cz (keywordEach [] X.env)).all (fun x=>x.1.isSome)
     && decide ((e :: es).length + ([]:List Keyword).length + (if ([]:List Keyword).isEmpty then 0 else 1) < 30)) = true:=by rfl)
    (fb:(apos.endLine == cz.line) = true:=by rfl) (h1:isStar e = false:=by rfl) (h2:noStar es = true:=by rfl) :
    BE X (.Call (.Attribute o "partition" apos) (e :: es) [] cz) (CY X.K "str" Fd to t) :=
 ⟨oe F.plainAttrs_str F.slot_str_partition F.type_str_partition D5 ho.h ha.h fg jM fb (aJ h1) (cC h2)⟩
abbrev TJ:=St->Hp->Str->(Str->Hp->Prop)->Prop
structure BJ (X:Cx) (es:List Expr) (t:TJ):Prop where
 h:∀ (pins:List (Addr × Obj)) (s:Shared) (σ:St) (H:Hp) (out:Str) (Q:Str->Hp->Prop),Inv X pins σ H s->t σ H out Q->wpAny (model X.prog X.w) X.A (joinParts out (evalEach es X.env)) (fun u s'=>∃ z H',Inv X pins σ H' s'/\RelV (.str z) u/\Q z H') X.xe s
def KI:TJ:=fun _ H out Q=>out.length <= sizeLine/\Q out H
def Ft (te:TE) (t:TJ):TJ:=fun σ H out Q=>te σ H fun x H1=>∃ y,x = .str y/\(out ++ y).length <= sizeLine/\t σ H1 (out ++ y) Q
theorem oX:BJ X [] KI:=⟨fun pins s σ H out Q I h=>joinParts_nil (s:=s) ⟨out,H,I.tok _,⟨_,rfl⟩,h.2⟩ h.1⟩
theorem dZ {t:TJ} (h1:BE X e te) (h2:BJ X es t):BJ X (e :: es) (Ft te t):=⟨fun pins s σ H out Q I h=>by
 refine joinParts_cons (cp (h1.h pins s σ H _ I h) fun v s1 ⟨x,H1,I1,r1,y,ex,hz,q⟩=>?_)
 subst ex;obtain ⟨tk,rfl⟩:=r1;exact ⟨hz,h2.h pins s1 σ H1 (out ++ y) Q I1 q⟩⟩
def Xg (t:TJ):TE:=fun σ H Q=>t σ H Str.empty fun z H1=>Q (.str z) H1
theorem oZ {e2:Expr} {t:TJ} (h:BJ X (e :: e2 :: es) t):BE X (.JoinedStr (e :: e2 :: es) pos) (Xg t):=⟨fun pins s σ H Q I q=>JoinedStr_many (cp (h.h pins s σ H Str.empty _ I q) fun u s1 ⟨z,H1,I1,r,q⟩=>⟨.str z,H1,I1,r,q⟩)⟩
def JK (te:TE):TE:=fun σ H Q=>te σ H fun x H1=>(∃ i,x = .int i/\i.natAbs.log2 < 1920/\Q (.str (toString i)) H1) \/ ∃ z,x = .str z/\z.length <= sizeLine/\Q (.str z) H1
theorem vq (h:BE X e te):BE X (.FormattedValue e (-1) none pos) (JK te):=⟨fun pins s σ H Q I q=>by
 refine FormattedValue_plain (cp (h.h pins s σ H _ I q) fun v s1 ⟨x,H1,I1,r1,q⟩=>?_)
 rcases q with ⟨i,rfl,hz,q⟩ | ⟨z,rfl,hz,q⟩
 ·obtain ⟨tk,rfl⟩:=r1;exact wpAny_formatField_int hz ⟨.str _,H1,I1.tok _,⟨_,rfl⟩,q⟩
 ·obtain ⟨tk,rfl⟩:=r1;exact formatField_str (fun t' Xf=>⟨.str z,H1,I1.tok _,⟨_,rfl⟩,q⟩) hz⟩
end
end L2
namespace L2
open PySem PySem.Spec PyProof.Rows
open PySem.SeqAt
open PySem.AutoSeq1 (wpAny_loadPart')
open PySem.MeetsSeq PySem.MeetsSeq2 PySem.MeetsSeq3
end L2
namespace L2
open PySem PySem.Spec PyProof.Rows
variable {K:W.Frag} {σ:St} {H:Hp} {Q:VK} {te to:TE} {X:Cx} {n c k:Nat} {o e:Expr} {es:List Expr} {t:TA} {apos cz pos p2:Pos} {z y x:Str} {i:Int} {ds:List Nat}
section
variable {ix:List Nat}
theorem Bx {a : Addr} {xs : List V} (W : Nat -> List V -> Hp -> Prop) (hz : xs.length <= sizeLine) (h0 : W 0 [] H) (hl : ∀ i ys H', W i ys H' -> SqL K H' a xs /\ ys.length = i)
    (hE:∀ i v ys H',xs[i]? = some v->W i ys H'->te (some v :: pick ix σ) H' fun y H5=>W (i + 1) (ys ++ [y]) H5)
    (hQ:∀ ys p H' H1,W xs.length ys H'->H' p = none->Same H' H1->H1 p = some (.lst ys)->Q (.ref p) H1):CB (EO K a) ix σ tH te Q H:=by
 refine ⟨fun i m ys H2=>m = xs.length - i/\i <= xs.length/\W i ys H2,⟨xs.length,by simp,Nat.zero_le _,h0⟩,?_⟩
 rintro i m ys H2 ⟨rfl,hi,w⟩;obtain ⟨q,e⟩:=hl i ys H2 w
 by_cases eQ:i < xs.length
 ·refine .inr ⟨⟨xs,_,q,List.getElem?_eq_getElem eQ⟩,by omega,fun x H3 y=>?_⟩
  obtain ⟨rfl,y⟩:=y;show te _ _ _;rw [show (fun y H5=>∃ m',m' < xs.length - i/\m' = xs.length - (i + 1)/\i + 1 <= xs.length/\W (i + 1) (ys ++ [y]) H5) = fun y H5=>W (i + 1) (ys ++ [y]) H5 from ?_]
  ·exact hE i x ys _ (y xs q) w
  ·funext y H5
   apply propext;exact ⟨fun ⟨m',_,_,_,h⟩=>h,fun h=>⟨xs.length - (i + 1),by omega,rfl,eQ,h⟩⟩
 ·have:i = xs.length:=by omega
  subst this;exact .inl ⟨⟨xs,q,Nat.le_refl _⟩,fun D hD=>hQ ys D H2 _ w hD (bh hD) aC⟩
theorem join_one:∀ cs:List Nat,Txt.join (Str.ofString "") (cs.map fun c=>(⟨#[c]⟩:Str)) = ⟨cs.toArray⟩:=by
 intro cs;refine (StrLaws.glued_eq_join _ _).trans ?_
 induction cs with
 | nil=>rfl
 | cons c cs ih =>
  cases cs with
  | nil=>rfl
  | cons d ds =>
   rw [List.map_cons] at ih;rw [List.map_cons,List.map_cons];show (⟨#[c]⟩ ++ Str.ofString "" ++ Str.join (Str.ofString "") ((⟨#[d]⟩:Str) :: ds.map fun d=>(⟨#[d]⟩:Str)):Str) = _
   rw [ih];have e:∀ x y:Str,x.cps.toList = y.cps.toList->x = y:=fun x y h=>by
    cases x;cases y
    congr 1
    exact Array.ext' h
   refine e _ _ ?_;rw [app_list,app_list];simp
   rfl
theorem C4 (cs:List Nat):((cs.map fun c=>(⟨#[c]⟩:Str)).map (·.length)).sum = cs.length:=by
 induction cs with
 | nil=>rfl
 | cons c cs ih =>
  rw [List.map_cons,List.map_cons,List.sum_cons,ih,List.length_cons];show 1 + cs.length = _;omega
end
section
def AV (K:W.Frag):List V->Hp->VK->Prop:=fun xs H Q=>∃ p ys,xs = [.ref p]/\((SqL K H p ys/\∀ l,H l = none->Q (.ref l) (upd H l (.tup ys))) \/ (SqT K H p ys/\Q (.ref p) H))
theorem sP:cF X (.type "tuple") (AV X.K):=qd
theorem lp {p:Addr} {ys:List V} (e:SqL K H p ys) (h:∀ l H1,H l = none->Same H H1->H1 l = some (.tup ys)->Q (.ref l) H1):AV K [.ref p] H Q:=⟨p,ys,rfl,.inl ⟨e,fun l hl=>h l _ hl (bh hl) aC⟩⟩
theorem xD (len:Nat) (d:Nat) (h:n <= len):HT.sIx len d (some (n:Int)) = n:=by
 unfold HT.sIx;simp only;rw [if_neg (by omega)];omega
theorem Ey (xs:List V) (h:n <= xs.length):mT xs none (some (n:Int)) = xs.take n:=by
 unfold mT;rw [xD _ _ h,show HT.sIx xs.length 0 none = 0 from rfl,List.drop_zero,Nat.sub_zero]
end
section
def wo:V->List V->Hp->VK->Prop:=fun x vs H Q=>∃ z i,x = .str z/\vs = [.int i]/\PadOk i = true/\Q (.str (Txt.zfill z i)) H
theorem Bs:Jc X "str.zfill" wo:=by
 intro pins s σ H x vs v us Q I rx rv h;obtain ⟨z,i,rfl,rfl,hi,q⟩:=h;obtain ⟨t,rfl⟩:=rx;obtain ⟨u,rfl,t',rfl⟩:=rv.one;exact SC.zfill hi fun t' k=>⟨.str (Txt.zfill z i),H,I.tok _,⟨_,rfl⟩,q⟩
theorem AK (hi:PadOk i = true) (h:Q (.str (Txt.zfill z i)) H):wo (.str z) [.int i] H Q:=⟨z,i,rfl,rfl,hi,h⟩
def rJ:V->List V->Hp->VK->Prop:=fun x vs H Q=>∃ z y,x = .str z/\vs = [.str y]/\Q (.bl (Txt.startswith z y)) H
theorem yW:Jc X "str.startswith" rJ:=by
 intro pins s σ H x vs v us Q I rx rv h;obtain ⟨z,y,rfl,rfl,q⟩:=h;obtain ⟨t,rfl⟩:=rx;obtain ⟨u,rfl,t',rfl⟩:=rv.one;exact SC.startswith ⟨.bl (Txt.startswith z y),H,I,rfl,q⟩
theorem lq (h:Q (.bl (Txt.startswith z y)) H):rJ (.str z) [.str y] H Q:=⟨z,y,rfl,rfl,h⟩
theorem Cs (ho : BE X o to) (ha : BA X (e :: es) t) (fg : attributeBase o "zfill" X.env (eval o X.env) = eval o X.env := by rfl)
    (jM:((backTo cz (starEach (e :: es) X.env)).all (fun x=>!x.1) && (backToKw cz (keywordEach [] X.env)).all (fun x=>x.1.isSome)
     && decide ((e :: es).length + ([]:List Keyword).length + (if ([]:List Keyword).isEmpty then 0 else 1) < 30)) = true:=by rfl)
    (fb:(apos.endLine == cz.line) = true:=by rfl) (h1:isStar e = false:=by rfl) (h2:noStar es = true:=by rfl) :
    BE X (.Call (.Attribute o "zfill" apos) (e :: es) [] cz) (CY X.K "str" wo to t) :=
 ⟨oe F.plainAttrs_str F.slot_str_zfill F.type_str_zfill Bs ho.h ha.h fg jM fb (aJ h1) (cC h2)⟩
theorem fP (ho : BE X o to) (ha : BA X (e :: es) t) (fg : attributeBase o "startswith" X.env (eval o X.env) = eval o X.env := by rfl)
    (jM:((backTo cz (starEach (e :: es) X.env)).all (fun x=>!x.1) && (backToKw cz (keywordEach [] X.env)).all (fun x=>x.1.isSome)
     && decide ((e :: es).length + ([]:List Keyword).length + (if ([]:List Keyword).isEmpty then 0 else 1) < 30)) = true:=by rfl)
    (fb:(apos.endLine == cz.line) = true:=by rfl) (h1:isStar e = false:=by rfl) (h2:noStar es = true:=by rfl) :
    BE X (.Call (.Attribute o "startswith" apos) (e :: es) [] cz) (CY X.K "str" rJ to t) :=
 ⟨oe F.plainAttrs_str F.slot_str_startswith F.type_str_startswith yW ho.h ha.h fg jM fb (aJ h1) (cC h2)⟩
end
section
variable {t:TJ} {out:Str} {F:Str->Hp->Prop}
instance z1:bH (Xg t σ H Q) (t σ H Str.empty fun z H1=>Q (.str z) H1):=⟨id⟩
instance z2:bH (Ft te t σ H out F) (te σ H fun x H1=>∃ y,x = .str y/\(out ++ y).length <= sizeLine/\t σ H1 (out ++ y) F):=⟨id⟩
instance z3:bH (JK te σ H Q) (te σ H fun x H1=>(∃ i,x = .int i/\i.natAbs.log2 < 1920/\Q (.str (toString i)) H1) \/ ∃ z,x = .str z/\z.length <= sizeLine/\Q (.str z) H1):=⟨id⟩
theorem ub (hz:out.length <= sizeLine) (h:F out H):KI σ H out F:=⟨hz,h⟩
end
def val:List Nat->Int
 | []=>0
 | d :: ds=>d + 16 * val ds
def okF (ds:List Nat):Prop:=∀ d ∈ ds,d < 16
theorem okF.take (h:okF ds) (n:Nat):okF (ds.take n):=fun d hd=>h d (List.mem_of_mem_take hd)
theorem okF.drop (h:okF ds) (n:Nat):okF (ds.drop n):=fun d hd=>h d (List.mem_of_mem_drop hd)
theorem kR:∀ {ds:List Nat},okF ds->0 <= val ds/\val ds < 16 ^ ds.length
 | [],_=>by simp [val]
 | d :: ds,h=>by
  have ih:=kR (ds:=ds) fun x hx=>h x (List.mem_cons_of_mem _ hx)
  have hd:=h d List.mem_cons_self;simp only [val,List.length_cons];rw [Int.pow_succ];omega
theorem iN:∀ (ds:List Nat) (n:Nat),n <= ds.length->val ds = val (ds.take n) + 16 ^ n * val (ds.drop n)
 | ds,0,_=>by simp [val]
 | [],n + 1,h=>by simp at h
 | d :: ds,n + 1,h=>by
  have ih:=iN ds n (by simpa using h);rw [List.take_succ_cons,List.drop_succ_cons];simp only [val];rw [ih,Int.pow_succ,Int.mul_add,Int.add_assoc]
  congr 2
  rw [Int.mul_comm (16 ^ n) 16,Int.mul_assoc]
theorem zK (h:okF ds) (hn:n <= ds.length):val ds / 16 ^ n = val (ds.drop n):=by
 have hb:=kR (h.take n);rw [List.length_take,Nat.min_eq_left hn] at hb;have hp:(0:Int) < 16 ^ n:=Int.pow_pos (by decide);rw [iN ds n hn,Int.add_mul_ediv_left _ _ (Int.ne_of_gt hp),Int.ediv_eq_zero_of_lt hb.1 hb.2,Int.zero_add]
theorem CS (hn:n <= ds.length):val ds - val (ds.drop n) * 16 ^ n = val (ds.take n):=by
 rw [iN ds n hn,Int.mul_comm (val (ds.drop n))];omega
theorem zM (n:Nat):(2:Int) ^ (4 * (n:Int)).toNat = 16 ^ n:=by
 rw [show (4 * (n:Int)).toNat = 4 * n by omega,Int.pow_mul]
 rfl
theorem Ax (h:okF ds) (h1:ds.length <= 2000) (h2:n <= 2000):ES (val ds) (4 * (n:Int)):=by
 have hb:=kR h;refine ⟨by omega,?_⟩;have eQ:(val ds).natAbs < 2 ^ (4 * ds.length):=by
  have e:((16:Int) ^ ds.length) = ((2 ^ (4 * ds.length):Nat):Int):=by
   rw [Nat.pow_mul];simp
  rw [e] at hb;omega
 have hk:Builtin.Int.intBits (val ds) <= 4 * ds.length:=by
  exact intBits_le eQ
 have:(2:Int) ^ 27 = 134217728:=by decide
 omega
def sg (ds:List Nat):Str:=⟨(ds.map (97 + ·)).toArray⟩
theorem dW (ds:List Nat):(sg ds).cps.toList = ds.map (97 + ·):=by simp [sg]
theorem dM (ds:List Nat):(sg ds).length = ds.length:=by rw [len_list,dW,List.length_map]
theorem aV (h:x.cps.toList = y.cps.toList):x = y:=by
 cases x;cases y
 congr 1
 exact Array.ext' h
theorem Ay (a b:List Nat):sg a ++ sg b = sg (a ++ b):=aV (by rw [app_list,dW,dW,dW,List.map_append])
theorem JQ (h:n <= ds.length):Txt.slice (sg ds) none (some (n:Int)) = sg (ds.take n):=aV (by
 rw [tW (by omega) (by rw [dM];omega),dW,dW,List.map_take]
 rfl)
theorem Dh (h:n <= ds.length):Txt.slice (sg ds) (some (n:Int)) none = sg (ds.drop n):=aV (by
 rw [jz (by omega) (by rw [dM];omega),dW,dW,List.map_drop]
 rfl)
def mW:Str:="abcdefghijklmnop"
theorem Dg:∀ d:Nat,d < 16->mj mW.cps.toList (d:Int) = some (97 + d):=by decide +kernel
theorem De:∀ d:Nat,d < 16->Builtin.Str.occurrences mW ⟨#[97 + d]⟩ 0 mW.length 1 = [d]:=by decide +kernel
theorem Df:∀ d:Nat,d < 16->(!(Builtin.Str.occurrences mW ⟨#[97 + d]⟩ 0 mW.length 1).isEmpty) = true:=by decide +kernel
theorem tY:mW.length = 16:=by decide +kernel
def FN:Str:="0123456789"
theorem figs:∀ k:Nat,k < 501->1 <= k->(∀ c ∈ (Str.ofString (toString ((8 * k:Nat):Int))).cps.toList,(!(Builtin.Str.occurrences FN ⟨#[c]⟩ 0 FN.length 1).isEmpty) = true/\c ≠ 58)/\(Str.ofString (toString ((8 * k:Nat):Int))).length <= 6/\1 <= (Str.ofString (toString ((8 * k:Nat):Int))).length/\mj (Str.ofString (toString ((8 * k:Nat):Int))).cps.toList 0 ≠ some 48/\((8 * k:Nat):Int).natAbs.log2 < 1920:=by decide +kernel
theorem js {c:Nat}:∀ {a b:List Nat},c ∉ a->(a ++ c :: b).dropWhile (· != c) = c :: b
 | [],b,_=>by simp [List.dropWhile]
 | x :: a,b,h=>by
  have hx:x ≠ c:=fun e=>h (by rw [e];exact List.mem_cons_self)
  have:=js (a:=a) (b:=b) fun z=>h (List.mem_cons_of_mem _ z)
  simp only [List.cons_append,List.dropWhile,bne_iff_ne.mpr hx,this]
theorem uf {a b:List Nat} (hx:x.cps.toList = a ++ c :: b) (ha:c ∉ a):(Txt.partition x ⟨#[c]⟩).1 = ⟨a.toArray⟩/\(Txt.partition x ⟨#[c]⟩).2.2 = ⟨b.toArray⟩:=by
 have hne:(Builtin.Str.occurrences x ⟨#[c]⟩ 0 x.length 1).isEmpty = false:=by
  rw [empty_one,hx,decide_eq_true (by simp)]
  rfl
 have h1:=eq_of_beq (from_first_some (x:=x) (y:=⟨#[c]⟩) (z:=⟨#[c]⟩) rfl rfl hne);rw [hx,js ha] at h1;have h2:(Txt.partition x ⟨#[c]⟩).2.2.cps.toList = b:=by
  have:=congrArg (fun z:Str=>z.cps.toList) h1
  rw [app_list] at this;simpa using this
 have h3:(Txt.partition x ⟨#[c]⟩).2.1 = ⟨#[c]⟩:=by
  unfold Txt.partition
  cases ho:Builtin.Str.occurrences x ⟨#[c]⟩ 0 x.length 1 with
  | nil=>rw [ho] at hne;cases hne
  | cons i r=>rfl
 have h4:=congrArg (fun z:Str=>z.cps.toList) (StrLaws.partition_sum x ⟨#[c]⟩)
 rw [app_list,app_list,h3,h2,hx] at h4;refine ⟨aV ?_,aV h2⟩;have h5:(Txt.partition x ⟨#[c]⟩).1.cps.toList ++ (c :: b) = a ++ c :: b:=by simpa using h4
 exact List.append_cancel_right h5
def jo (c:Nat):Bool:=decide (48 <= c/\c <= 57)
theorem B6 (c:Nat):(!(Builtin.Str.occurrences FN ⟨#[c]⟩ 0 FN.length 1).isEmpty) = jo c:=by
 rw [empty_one,Bool.not_not];have:FN.cps.toList = [48,49,50,51,52,53,54,55,56,57]:=by decide +kernel
 rw [this];unfold jo;refine decide_eq_decide.mpr ?_;simp only [List.mem_cons,List.not_mem_nil,or_false];omega
def gH (z:Str):Bool:=decide (z ≠ Str.ofString "") && z.cps.toList.all jo
theorem yo:z = Str.ofString "" ↔ z.cps.toList = []:=by
 constructor
 ·rintro rfl;rfl
 ·intro h;exact aV (by rw [h];rfl)
theorem oN:gH z = true ↔ z.cps.toList ≠ []/\NumText.AllDigits z.cps.toList:=by
 unfold gH NumText.AllDigits jo;rw [Bool.and_eq_true,List.all_eq_true,decide_eq_true_iff,Ne,yo];simp only [decide_eq_true_eq,Ne]
def numM (z:Str):Nat:=NumText.digitsVal z.cps.toList
theorem iZ (h:gH z = true) (hl:z.length <= 4300):PySem.intText? z = some (numM z:Int):=by
 obtain ⟨h1,h2⟩:=oN.mp h;exact intText_digits h2 h1 hl
theorem lN:∀ (cs:List Nat) (a:Nat),NumText.AllDigits cs->cs.foldl (fun acc c=>acc * 10 + (c - 48)) a < (a + 1) * 10 ^ cs.length
 | [],a,_=>by simp
 | c :: cs,a,h=>by
  rw [List.foldl_cons,List.length_cons,Nat.pow_succ];have hc:=h c List.mem_cons_self;have ih:=lN cs (a * 10 + (c - 48)) fun x hx=>h x (List.mem_cons_of_mem _ hx)
  have:(a * 10 + (c - 48) + 1) * 10 ^ cs.length <= (a + 1) * 10 * 10 ^ cs.length:=Nat.mul_le_mul_right _ (by omega)
  calc _ < _:=ih
   _ <= _:=this
   _ = _:=by rw [Nat.mul_assoc,Nat.mul_comm 10]
def zD (least most:Int) (n:Nat) (z:Str):Option Int :=
 if z.length <= n/\gH z = true/\¬ (mj z.cps.toList 0 = some 48/\z ≠ Str.ofString "0")/\least <= numM z/\(numM z:Int) <= most then some (numM z:Int) else none
def vK (z:Str):Option Int:=if z.length <= 6/\gH z = true/\mj z.cps.toList 0 ≠ some 48/\numM z % 8 = 0 then some (numM z:Int) else none
def hV (n:Nat):Nat->List Nat
 | 0=>[]
 | i + 1=>(48 + n / 10 ^ i % 10) :: hV n i
theorem ir (n k:Nat):(hV n k).length = k:=by
 induction k with
 | zero=>rfl
 | succ k ih=>simp only [hV,List.length_cons,ih]
theorem iu (n k:Nat):NumText.AllDigits (hV n k):=by
 induction k with
 | zero=>intro c hc;cases hc
 | succ k ih =>
  intro c hc
  rcases List.mem_cons.mp hc with rfl | h
  ·omega
  ·exact ih c h
theorem qQ (n:Nat):∀ (k a:Nat),(hV n k).foldl (fun acc c=>acc * 10 + (c - 48)) a = a * 10 ^ k + n % 10 ^ k
 | 0,a=>by simp [hV,Nat.mod_one]
 | k + 1,a=>by
  simp only [hV,List.foldl_cons];rw [qQ n k,Nat.add_sub_cancel_left];have h1:=Nat.div_add_mod n (10 ^ k);have h2:=Nat.div_add_mod (n / 10 ^ k) 10;have h3:n % 10 ^ (k + 1) = n % 10 ^ k + 10 ^ k * (n / 10 ^ k % 10):=by
   rw [Nat.pow_succ,Nat.mod_mul]
  rw [h3,Nat.pow_succ,Nat.add_mul,Nat.mul_assoc,Nat.mul_comm 10 (10 ^ k),Nat.mul_comm (n / 10 ^ k % 10) (10 ^ k)];omega
theorem oj (h:n < 10 ^ k):NumText.digitsVal (hV n k) = n:=by
 unfold NumText.digitsVal;rw [qQ,Nat.mod_eq_of_lt h];omega
theorem Cb:∀ cs:List Nat,cs = List.replicate (cs.length - (cs.dropWhile (· == 48)).length) 48 ++ cs.dropWhile (· == 48)
 | []=>rfl
 | c :: cs=>by
  by_cases h:c = 48
  ·subst h;have ih:=Cb cs;have hl:(cs.dropWhile (· == 48)).length <= cs.length:=(List.dropWhile_sublist _).length_le;rw [List.dropWhile_cons_of_pos (by simp),List.length_cons,show cs.length + 1 - (cs.dropWhile (· == 48)).length = (cs.length - (cs.dropWhile (· == 48)).length) + 1 by omega,List.replicate_succ,List.cons_append,<- ih]
  ·rw [List.dropWhile_cons_of_neg (by simpa using h)];simp
def dS (n k:Nat):Str:=⟨(hV n k).toArray⟩
theorem aR (n k:Nat):(dS n k).length = k:=by rw [len_list];show (hV n k).length = k;exact ir n k
theorem ux (n:Nat):(Str.ofString (toString (n:Int))).cps.toList = (Nat.toDigits 10 n).map Char.toNat:=W.KIN.signs_num n
theorem uC:∀ {cs:List Nat},NumText.AllDigits cs->(cs.map Char.ofNat).map Char.toNat = cs
 | [],_=>rfl
 | c :: cs,h=>by
  have hc:=h c List.mem_cons_self;have:(Char.ofNat c).toNat = c:=by
   obtain ⟨d,rfl⟩:∃ d,c = 48 + d:=⟨c - 48,by omega⟩;have hd:d < 10:=by omega
   match d,hd with
   | 0,_=>rfl
   | 1,_=>rfl
   | 2,_=>rfl
   | 3,_=>rfl
   | 4,_=>rfl
   | 5,_=>rfl
   | 6,_=>rfl
   | 7,_=>rfl
   | 8,_=>rfl
   | 9,_=>rfl
  rw [List.map_cons,List.map_cons,this,uC fun x hx=>h x (List.mem_cons_of_mem _ hx)]
theorem kl (h:n < 10 ^ k) (hk:1 <= k):hV n k = List.replicate (k - (Str.ofString (toString (n:Int))).length) 48 ++ (Str.ofString (toString (n:Int))).cps.toList:=by
 have hd:=iu n k;have ha:=NumText.toDigits_all (hV n k) hd;rw [oj h] at ha;have e:=Cb (hV n k);rw [ir] at e;rw [len_list,ux,ha]
 cases hc:(hV n k).dropWhile (· == 48) with
 | nil =>
  rw [hc] at e;simp only [List.length_nil,Nat.sub_zero,List.append_nil] at e;rw [e];obtain ⟨m,rfl⟩:∃ m,k = m + 1:=⟨k - 1,by omega⟩
  show List.replicate (m + 1) 48 = List.replicate (m + 1 - 1) 48 ++ [48];rw [Nat.add_sub_cancel,List.replicate_succ']
 | cons c r =>
  rw [hc] at e;have Lj:NumText.AllDigits (c :: r):=fun x hx=>hd x (by rw [e];exact List.mem_append_right _ hx)
  simp only;rw [uC Lj];exact e
theorem yi (h:n < 10 ^ k) (hk:1 <= k):Txt.zfill (Str.ofString (toString (n:Int))) (k:Int) = dS n k:=by
 have hp:=kl h hk;have hl:=congrArg List.length hp;rw [ir,List.length_append,List.length_replicate,<- len_list] at hl;refine aV ?_;show _ = hV n k;rw [hp];unfold Txt.zfill
 split
 ·rename_i hi;rw [show k - (Str.ofString (toString (n:Int))).length = 0 by omega]
  rfl
 ·have Lg:NumText.AllDigits (Str.ofString (toString (n:Int))).cps.toList:=fun c hc=>iu n k c (by rw [hp];exact List.mem_append_right _ hc)
  have hz:zfilled (Str.ofString (toString (n:Int))) ((k:Int).toNat - (Str.ofString (toString (n:Int))).length) = Builtin.Str.padded (Str.ofString (toString (n:Int))) ((k:Int).toNat - (Str.ofString (toString (n:Int))).length) 0 48:=by
   unfold zfilled
   split
   ·rename_i h0;have:=Lg 43 (by rw [<- Array.getElem?_toList] at h0;exact List.mem_of_getElem? h0);omega
   ·rename_i h0;have:=Lg 45 (by rw [<- Array.getElem?_toList] at h0;exact List.mem_of_getElem? h0);omega
   ·rfl
  rw [hz,Int.toNat_natCast];unfold Builtin.Str.padded;simp
theorem len_app (x y:Str):(x ++ y).length = x.length + y.length:=by rw [len_list,app_list,List.length_append,<- len_list,<- len_list]
theorem qw {i j:Nat} (h1:i <= j) (h2:j <= z.length):(Txt.slice z (some (i:Int)) (some (j:Int))).cps.toList = (z.cps.toList.drop i).take (j - i):=by
 have e:=slice_closes (x:=z) (i:=(i:Int)) (j:=(j:Int)) ⟨by omega,by omega,by rw [<- len_list];omega⟩;rw [eq_of_beq e];show (z.cps.toList.drop (i:Int).toNat).take ((j:Int) - (i:Int)).toNat = _;rw [show ((j:Int) - (i:Int)).toNat = j - i by omega,show (i:Int).toNat = i by omega]
theorem yu (a b c:Str) {j:Int} (hi:i = (a.length:Nat)) (hj:j = ((a.length + b.length:Nat):Int)):Txt.slice (a ++ (b ++ c)) (some i) (some j) = b:=by
 subst hi hj;refine aV ?_;rw [qw (by omega) (by rw [len_app,len_app];omega)];rw [app_list,app_list,len_list a,List.drop_left,Nat.add_sub_cancel_left,len_list b,List.take_left]
theorem jy (a b:Str) (hi:i = (a.length:Nat)):Txt.slice (a ++ b) (some i) none = b:=by
 subst hi;refine aV ?_;rw [jz (by omega) (by rw [len_app];omega),app_list];rw [show ((a.length:Nat):Int).toNat = a.length by omega,len_list a,List.drop_left]
theorem nL (a b:Str) {j:Int} (hj:j = (a.length:Nat)):Txt.slice (a ++ b) none (some j) = a:=by
 subst hj;refine aV ?_;rw [tW (by omega) (by rw [len_app];omega),app_list];rw [show ((a.length:Nat):Int).toNat = a.length by omega,len_list a,List.take_left]
theorem oh (n:Nat) (hk:1 <= k):gH (dS n k) = true:=by
 refine oN.mpr ⟨fun h=>?_,iu n k⟩;have:=congrArg List.length h;rw [show (dS n k).cps.toList = hV n k from rfl,ir] at this;simp at this;omega
theorem yP (h:n < 10 ^ k) (hk:1 <= k) (hl:k <= 4300):PySem.intText? (dS n k) = some (n:Int):=by
 rw [iZ (oh n hk) (by rw [aR];exact hl)];show some ((NumText.digitsVal (hV n k):Nat):Int) = _;rw [oj h]
theorem DW (n k:Nat):(dS n k).cps.toList.all jo = true:=by
 rw [List.all_eq_true];intro c hc;have:=iu n k c hc;simp only [jo,decide_eq_true_eq];omega
section
theorem jj:∀ (zs:List Str) (n:Nat),Vals (zs.map V.str) (strsFrom n zs)
 | [],_=>.nil
 | z :: zs,n=>.cons ⟨_,rfl⟩ (jj zs (n + 1))
def wq:V->List V->Hp->VK->Prop:=fun x vs H Q=>∃ z y,x = .str z/\vs = [.str y]/\(y.length == 0) = false/\z.length + 2 <= sizeLine/\∀ p H1,H p = none->Same H H1->H1 p = some (.lst ((Txt.split z y).map V.str))->Q (.ref p) H1
theorem Bt:Jc X "str.split" wq:=by
 intro pins s σ H x vs v us Q I rx rv h;obtain ⟨z,y,rfl,rfl,hy,hz,q⟩:=h;obtain ⟨t,rfl⟩:=rx;obtain ⟨u,rfl,t',rfl⟩:=rv.one;have hl:(Txt.split z y).length <= sizeLine:=Nat.le_trans (split_le z y) hz;have fin:∀ (vs:List Value) (tk:Nat),Vals ((Txt.split z y).map V.str) vs->EP X pins σ Q (.ref s.heap.objs.size) { s with toks:=tk,heap:=s.heap.push { cls:=.type "list",data:=.seq vs.toArray } }:=fun vs tk rv =>
  ⟨.ref s.heap.objs.size,_,I.laid (o:=.lst _) (t':=tk) (fun b u=>Heap.get?_push_of_some _) (Nat.le_refl _) ⟨by rw [List.length_map];exact hl,vs,_,rv,Heap.get?_push_size _ rfl⟩,rfl,q _ _ I.fresh (bh I.fresh) aC⟩
 by_cases h1:(decide (z.length < y.length) || decide (Builtin.Str.strKind z < Builtin.Str.strKind y)) = true
 ·rw [show Txt.split z y = [z] by unfold Txt.split;rw [if_pos h1]] at fin;exact call_meets F.slot_str_split (typeIs_str s z t) F.entry_str_split (F.args_str_split_2 _ _) (meets_str_split_cannot_occur z y t t' h1) (fin _ _ (.cons ⟨_,rfl⟩ .nil))
 ·by_cases h2:(Builtin.Str.occurrences z y 0 z.length (z.length + 1)).isEmpty = true
  ·rw [show Txt.split z y = [z] by unfold Txt.split;rw [if_neg h1,if_pos h2]] at fin;exact call_meets F.slot_str_split (typeIs_str s z t) F.entry_str_split (F.args_str_split_2 _ _) (meets_str_split_not_found z y t t' (Bool.eq_false_iff.mpr h1) hy h2) (fin _ _ (.cons ⟨_,rfl⟩ .nil))
  ·have e:Txt.split z y = Builtin.Str.partsBetween z (Builtin.Str.occurrences z y 0 z.length (z.length + 1)) y.length:=by unfold Txt.split;rw [if_neg h1,if_neg h2]
   rw [e] at fin hl;exact call_meets F.slot_str_split (typeIs_str s z t) F.entry_str_split (F.args_str_split_2 _ _) (meets_str_split_sep z y t t' (Bool.eq_false_iff.mpr h1) hy (Bool.eq_false_iff.mpr h2) (by omega) hl) (fin _ _ (jj _ _))
theorem bm_split (ho : BE X o to) (ha : BA X (e :: es) t) (fg : attributeBase o "split" X.env (eval o X.env) = eval o X.env := by rfl)
    (jM:((backTo cz (starEach (e :: es) X.env)).all (fun x=>!x.1) && (backToKw cz (keywordEach [] X.env)).all (fun x=>x.1.isSome)
     && decide ((e :: es).length + ([]:List Keyword).length + (if ([]:List Keyword).isEmpty then 0 else 1) < 30)) = true:=by rfl)
    (fb:(apos.endLine == cz.line) = true:=by rfl) (h1:isStar e = false:=by rfl) (h2:noStar es = true:=by rfl) :
    BE X (.Call (.Attribute o "split" apos) (e :: es) [] cz) (CY X.K "str" wq to t) :=
 ⟨oe F.plainAttrs_str F.slot_str_split F.type_str_split Bt ho.h ha.h fg jM fb (aJ h1) (cC h2)⟩
theorem AL (hy:(y.length == 0) = false) (hz:z.length + 2 <= sizeLine) (q:∀ p H1,H p = none->Same H H1->H1 p = some (.lst ((Txt.split z y).map V.str))->Q (.ref p) H1):wq (.str z) [.str y] H Q:=⟨z,y,rfl,rfl,hy,hz,q⟩
end
def glue (c:Nat):List (List Nat)->List Nat
 | []=>[]
 | [a]=>a
 | a :: b :: r=>a ++ c :: glue c (b :: r)
theorem qm {c:Nat}:∀ {a b r q:List Nat},c ∉ a->c ∉ b->a ++ c :: r = b ++ c :: q->a = b/\r = q
 | [],[],r,q,_,_,h=>⟨rfl,(List.cons.inj h).2⟩
 | [],y :: b,r,q,_,hb,h=>absurd (List.cons.inj h).1 (fun e=>hb (e ▸ List.mem_cons_self))
 | x :: a,[],r,q,ha,_,h=>absurd (List.cons.inj h).1 (fun e=>ha (e ▸ List.mem_cons_self))
 | x :: a,y :: b,r,q,ha,hb,h=>by
  obtain ⟨e,h'⟩:=List.cons.inj h;obtain ⟨h1,h2⟩:=qm (fun hc=>ha (List.mem_cons_of_mem _ hc)) (fun hc=>hb (List.mem_cons_of_mem _ hc)) h'
  exact ⟨by rw [e,h1],h2⟩
theorem uY {c:Nat}:∀ {as bs:List (List Nat)},as ≠ []->bs ≠ []->(∀ a ∈ as,c ∉ a)->(∀ b ∈ bs,c ∉ b)->glue c as = glue c bs->as = bs
 | [],_,h,_,_,_,_=>absurd rfl h
 | _,[],_,h,_,_,_=>absurd rfl h
 | [a],[b],_,_,_,_,h=>by rw [show a = b from h]
 | [a],b :: b' :: bs,_,_,ha,_,h=>by
  refine absurd ?_ (ha a List.mem_cons_self);rw [show a = b ++ c :: glue c (b' :: bs) from h];exact List.mem_append_right _ List.mem_cons_self
 | a :: a' :: as,[b],_,_,_,hb,h=>by
  refine absurd ?_ (hb b List.mem_cons_self);rw [<- show a ++ c :: glue c (a' :: as) = b from h];exact List.mem_append_right _ List.mem_cons_self
 | a :: a' :: as,b :: b' :: bs,_,_,ha,hb,h=>by
  obtain ⟨h1,h2⟩:=qm (ha a List.mem_cons_self) (hb b List.mem_cons_self) h;rw [h1,uY (List.cons_ne_nil _ _) (List.cons_ne_nil _ _) (fun x hx=>ha x (List.mem_cons_of_mem _ hx)) (fun x hx=>hb x (List.mem_cons_of_mem _ hx)) h2]
theorem qM (c:Nat):∀ zs:List Str,(Str.join ⟨#[c]⟩ zs).cps.toList = glue c (zs.map fun z=>z.cps.toList)
 | []=>rfl
 | [a]=>rfl
 | a :: b :: r=>by
  have ih:=qM c (b :: r);show (a ++ (⟨#[c]⟩:Str) ++ Str.join ⟨#[c]⟩ (b :: r):Str).cps.toList = a.cps.toList ++ c :: glue c ((b :: r).map fun z=>z.cps.toList)
  rw [app_list,app_list,ih,List.append_assoc]
  rfl
theorem lZ:∀ {as bs:List Str},(as.map fun z=>z.cps.toList) = (bs.map fun z=>z.cps.toList)->as = bs
 | [],[],_=>rfl
 | [],_ :: _,h=>by cases h
 | _ :: _,[],h=>by cases h
 | a :: as,b :: bs,h=>by
  rw [List.map_cons,List.map_cons] at h;obtain ⟨h1,h2⟩:=List.cons.inj h;rw [aV h1,lZ h2]
theorem Ag {zs:List Str} (h0:zs ≠ []) (hf:∀ z ∈ zs,c ∉ z.cps.toList) (hx:x.cps.toList = glue c (zs.map fun z=>z.cps.toList)):Txt.split x ⟨#[c]⟩ = zs:=by
 have hj:=StrLaws.join_split x ⟨#[c]⟩;have hp:=split_pos x ⟨#[c]⟩;refine lZ (uY (c:=c) (fun h=>?_) (fun h=>h0 (List.map_eq_nil_iff.mp h)) (fun a ha=>?_) (fun a ha=>?_) ?_)
 ·rw [List.map_eq_nil_iff.mp h] at hp;exact absurd hp (by simp)
 ·obtain ⟨z,hz,rfl⟩:=List.mem_map.mp ha;exact StrLaws.split_free x c z hz
 ·obtain ⟨z,hz,rfl⟩:=List.mem_map.mp ha;exact hf z hz
 ·rw [<- qM,hj,hx]
def qR (c:Nat):List (List Nat)->List Nat
 | []=>[]
 | r :: rs=>r ++ c :: qR c rs
theorem qP (c:Nat):∀ rs:List (List Nat),glue c (rs ++ [[]]) = qR c rs
 | []=>rfl
 | [r]=>rfl
 | r :: q :: rs=>by
  show r ++ c :: glue c (q :: rs ++ [[]]) = r ++ c :: qR c (q :: rs);rw [qP c (q :: rs)]
theorem v7 {zs:List Str} (hf:∀ z ∈ zs,c ∉ z.cps.toList) (hx:x.cps.toList = qR c (zs.map fun z=>z.cps.toList)):Txt.split x ⟨#[c]⟩ = zs ++ [Str.ofString ""]:=by
 refine Ag (by simp) (fun z hz=>?_) ?_
 ·rcases List.mem_append.mp hz with h | h
  ·exact hf z h
  ·rw [List.mem_singleton.mp h];exact List.not_mem_nil
 ·rw [List.map_append,hx,<- qP]
  rfl
section
theorem tN:∀ {us:List Value} {ss:List Str},StrsAre us ss->Vals (ss.map V.str) us
 | _,_,.nil=>.nil
 | _,_,.cons n t h=>.cons ⟨_,rfl⟩ (tN h)
theorem Vals.len {xs:List V} {us:List Value} (h:Vals xs us):us.length = xs.length:=by
 induction h with
 | nil=>rfl
 | cons _ _ ih=>simp only [List.length_cons,ih]
end
section
theorem jx (x y:Str):Txt.startswith x y = true ↔ y.cps.toList <+: x.cps.toList:=by
 unfold Txt.startswith
 rw [StrLaws.subAt_eq,List.drop_zero,Bool.and_eq_true,decide_eq_true_eq,beq_iff_eq,Nat.zero_add,len_list,len_list];rw [List.prefix_iff_eq_take];exact ⟨fun h=>h.2.symm,fun h=>⟨by rw [h,List.length_take];omega,h.symm⟩⟩
theorem v5 (z:Str) (s:String) (c:Nat) (h:Str.ofString s = ⟨#[c]⟩):Txt.startswith z (Str.ofString s) = true ↔ mj z.cps.toList 0 = some c:=by
 rw [jx,h];show [c] <+: z.cps.toList ↔ _
 cases z.cps.toList with
 | nil=>exact ⟨fun h=>absurd h (by simp),fun h=>by cases h⟩
 | cons a l =>
  rw [show mj (a :: l) 0 = some a from d6 (xs:=a :: l) (j:=0) rfl]
  constructor
  ·rintro ⟨t,ht⟩;injection ht with h1;rw [h1]
  ·intro h;injection h with h;subst h;exact ⟨l,rfl⟩
end
theorem zt (xs:List V) (x:V):mT (xs ++ [x]) none (some (-1)) = xs:=by
 unfold mT;have e:HT.sIx (xs ++ [x]).length (xs ++ [x]).length (some (-1)) = xs.length:=by
  unfold HT.sIx;rw [List.length_append,List.length_singleton];simp only;rw [if_pos (by decide)];omega
 rw [HT.sIx_none,e];rw [List.drop_zero,Nat.sub_zero,List.take_left]
theorem DV (h:n < 10 ^ k) (hk:1 <= k) (hl:k <= 600):numM (dS n k) = n:=by
 have e:=(iZ (oh n hk) (by rw [aR];omega)).symm.trans (yP h hk (by omega));have:=Option.some.inj e;omega
section
variable {ix:List Nat} {tt:TT}
theorem BH {p:Prop} [Decidable p] {T U:TS} {D:Ends} (R:St->Hp->Prop) (h2:∀ σ' H',R σ' H'->D.nx σ' H') (hp:p->∀ Fo:St->Hp->Prop,(∀ σ' H',R σ' H'->Fo σ' H')->T { nx:=Fo,rt:=D.rt,bk:=D.bk,ct:=D.ct } σ H) (hn:¬ p->∀ Fo:St->Hp->Prop,(∀ σ' H',R σ' H'->Fo σ' H')->U { nx:=Fo,rt:=D.rt,bk:=D.bk,ct:=D.ct } σ H):if p then T D σ H else U D σ H:=by
 by_cases h:p
 ·rw [if_pos h];exact hp h D.nx h2
 ·rw [if_neg h];exact hn h D.nx h2
end
end L2
namespace PySem
open PySem PySem.Spec PySem.AutoSeq1
end PySem
namespace L2
open PySem PySem.Spec PyProof.Rows
variable {n:Nat}
def bZ (n:Nat):Str:=Str.ofString (toString (n:Int))
theorem cX {k:Nat} (h:n < 10 ^ k) (hk:1 <= k):(bZ n).length <= k:=by
 have e:=congrArg List.length (kl h hk);rw [ir,List.length_append,List.length_replicate] at e;have:(Str.ofString (toString (n:Int))).cps.toList.length = (bZ n).length:=(len_list _).symm;rw [this] at e;have e2:(Str.ofString (toString (n:Int))).length = (bZ n).length:=rfl;omega
theorem Bn {k:Nat} (h:n < 10 ^ k) (hk:1 <= k):NumText.AllDigits (bZ n).cps.toList:=fun c hc=>iu n k c (by rw [kl h hk];exact List.mem_append_right _ hc)
theorem HS (n:Nat):n < 10 ^ (n + 1):=by
 induction n with
 | zero=>decide
 | succ n ih=>rw [Nat.pow_succ];omega
theorem lH (n:Nat):NumText.AllDigits (bZ n).cps.toList:=Bn (HS n) (by omega)
theorem nu (n:Nat):(bZ n).cps.toList ≠ []:=by
 intro h;have e:(bZ n).cps.toList = (Nat.toDigits 10 n).map Char.toNat:=ux n;rw [h] at e;have:=congrArg List.length e;rw [List.length_map] at this;have h2:0 < (Nat.toDigits 10 n).length:=Nat.length_toDigits_pos;simp at this;omega
theorem uy (n:Nat):gH (bZ n) = true:=oN.mpr ⟨nu n,lH n⟩
theorem ow (h:n < 10 ^ 20):numM (bZ n) = n:=by
 have hl:=cX h (by decide);have hp:=kl h (by decide);have hv:=oj h;rw [hp] at hv;unfold NumText.digitsVal at hv;rw [List.foldl_append] at hv;have e0:∀ k:Nat,(List.replicate k 48).foldl (fun acc c=>acc * 10 + (c - 48)) 0 = 0:=fun k=>by
  induction k with
  | zero=>rfl
  | succ k ih=>rw [List.replicate_succ,List.foldl_cons];exact ih
 rw [e0] at hv;exact hv
theorem D2 (h:n < 10 ^ 20):n < 10 ^ (bZ n).length:=by
 have:=lN (bZ n).cps.toList 0 (lH n);have e:=ow h;unfold numM at e;rw [<- len_list] at this;have e':(bZ n).cps.toList.foldl (fun acc c=>acc * 10 + (c - 48)) 0 = n:=e
 rw [e'] at this;simpa using this
theorem yV {m:Nat} (h:n <= m) (hm:m < 10 ^ 20):(bZ n).length <= (bZ m).length:=by
 have h1:=D2 hm;have h2:1 <= (bZ m).length:=by
  rw [len_list];exact List.length_pos_iff.mpr (nu m)
 exact cX (Nat.lt_of_le_of_lt h h1) h2
theorem wJ (h1:1 <= n) (h:n < 10 ^ 20):mj (bZ n).cps.toList 0 ≠ some 48:=by
 intro h0;have hne:=nu n;have hd:=lH n;have hv:=ow h;have mS:∀ k,n < 10 ^ k->1 <= k->(bZ n).cps.toList.length <= k:=fun k a b=>by rw [<- len_list];exact cX a b
 unfold numM at hv;generalize (bZ n).cps.toList = cs at *
 cases cs with
 | nil=>exact hne rfl
 | cons c r =>
  have hc:c = 48:=by
   rw [show mj (c :: r) 0 = some c from d6 (xs:=c :: r) (j:=0) rfl] at h0;exact Option.some.inj h0
  subst hc;have hr:=lN r 0 (fun x hx=>hd x (List.mem_cons_of_mem _ hx))
  have e:r.foldl (fun acc c=>acc * 10 + (c - 48)) 0 = n:=hv
  rw [e] at hr;have CN:n < 10 ^ r.length:=by simpa using hr
  by_cases hz:r.length = 0
  ·rw [hz] at CN;simp at CN;omega
  ·have:=mS r.length CN (by omega);rw [List.length_cons] at this;omega
theorem AH {least:Int} {most:Nat} (h1:least <= (n:Int)) (h2:n <= most) (hm:most < 10 ^ 20) (h0:1 <= n \/ n = 0):zD least (most:Nat) (Str.ofString (toString (most:Int))).length (bZ n) = some (n:Int):=by
 have hn:n < 10 ^ 20:=Nat.lt_of_le_of_lt h2 hm;unfold zD;rw [ow hn];refine if_pos ⟨yV h2 hm,uy n,fun h=>?_,h1,by omega⟩
 rcases h0 with h0 | h0
 ·exact wJ h0 hn h.1
 ·subst h0;exact h.2 (by unfold bZ;decide +kernel)
theorem gg (n c:Nat) (hc:jo c = false):c ∉ (bZ n).cps.toList:=fun h=>by
 have:=uy n;unfold gH at this;rw [Bool.and_eq_true,List.all_eq_true] at this;rw [this.2 c h] at hc
 cases hc
section
variable {K:W.Frag} {σ:St} {H:Hp} {Q:VK} {ix:List Nat} {te:TE} {tt:TT}
theorem KC {a : Addr} {xs : List V} (W : Nat -> List V -> Hp -> Prop) (hz : xs.length <= sizeLine) (h0 : W 0 [] H) (hl : ∀ i ys H', W i ys H' -> SqT K H' a xs /\ ys.length <= i)
    (hE:∀ i v ys H',xs[i]? = some v->W i ys H'->tt (some v :: pick ix σ) H' fun b H4=>if b = true then te (some v :: pick ix σ) H4 fun y H5=>W (i + 1) (ys ++ [y]) H5 else W (i + 1) ys H4)
    (hQ:∀ ys p H' H1,W xs.length ys H'->H' p = none->Same H' H1->H1 p = some (.lst ys)->Q (.ref p) H1):CB (EN K a) ix σ tt te Q H:=by
 refine ⟨fun i m ys H2=>m = xs.length - i/\i <= xs.length/\W i ys H2,⟨xs.length,by simp,Nat.zero_le _,h0⟩,?_⟩
 rintro i m ys H2 ⟨rfl,hi,w⟩;obtain ⟨q,e⟩:=hl i ys H2 w
 by_cases eQ:i < xs.length
 ·refine .inr ⟨⟨xs,_,q,List.getElem?_eq_getElem eQ⟩,by omega,fun x H3 y=>?_⟩
  obtain ⟨rfl,y⟩:=y;have ex:∀ (zs:List V) (H5:Hp),(∃ m',m' < xs.length - i/\m' = xs.length - (i + 1)/\i + 1 <= xs.length/\W (i + 1) zs H5) = W (i + 1) zs H5:=fun zs H5 =>
   propext ⟨fun ⟨m',_,_,_,h⟩=>h,fun h=>⟨xs.length - (i + 1),by omega,rfl,eQ,h⟩⟩
  simp only [ex];exact hE i x ys _ (y xs q) w
 ·have:i = xs.length:=by omega
  subst this;exact .inl ⟨⟨xs,q,Nat.le_refl _⟩,fun D hD=>hQ ys D H2 _ w hD (bh hD) aC⟩
theorem Eb {a : Addr} {xs : List V} (W : Nat -> List V -> Hp -> Prop) (hz : xs.length <= sizeLine) (h0 : W 0 [] H) (hl : ∀ i ys H', W i ys H' -> SqT K H' a xs /\ ys.length = i)
    (hE:∀ i v ys H',xs[i]? = some v->W i ys H'->te (some v :: pick ix σ) H' fun y H5=>W (i + 1) (ys ++ [y]) H5)
    (hQ:∀ ys p H' H1,W xs.length ys H'->H' p = none->Same H' H1->H1 p = some (.lst ys)->Q (.ref p) H1):CB (EN K a) ix σ tH te Q H :=
 KC W hz h0 (fun i ys H' w=>⟨(hl i ys H' w).1,Nat.le_of_eq (hl i ys H' w).2⟩) (fun i v ys H' hv w=>by
  show (fun b H4=>if b = true then te (some v :: pick ix σ) H4 fun y H5=>W (i + 1) (ys ++ [y]) H5 else W (i + 1) ys H4) true H'
  exact hE i v ys H' hv w) hQ
end
end L2
namespace TS
open PySem PySem.W PyProof.Rows
variable {β:Type}
local macro_rules | `(term| type_of% $n:ident) => return Lean.mkIdent (Lean.mkPrivateNameCore `PySem.Builtin.List.W1All (`PySem.Builtin ++ n.getId))
local macro_rules | `(tactic| delta $n:ident) => if Lean.isPrivateName n.getId then Lean.Macro.throwUnsupported else `(tactic| delta $(Lean.mkIdent (Lean.mkPrivateNameCore `PySem.Builtin.List.W1All (`PySem.Builtin ++ n.getId))):ident)
abbrev CU:=type_of% lt
abbrev zQ:=type_of% elem
abbrev jY:=type_of% gallop
abbrev JF:=type_of% mergeLo
abbrev JG:=type_of% mergeHi
abbrev ET:=type_of% setMinGallop
structure sY (prog:Program) (w:World) (A:Around) (s:Shared) (κ:SortKind) (M:Keyed->Prop) (c:Keyed->Keyed->Bool):Prop where
 ask:∀ x y,M x->M y->∀ C:Bool->Shared->Prop,C (c x y) s->wpAny (model prog w) A (keyLt' κ x.1 y.1) C (fun _ _=>False) s
 tot:∀ x y,M x->M y->x ≠ y->c x y = false->c y x = true
 YE:∀ x y,M x->M y->c x y = true->c y x = false
 trans:∀ x y z,M x->M y->M z->c x y = true->c y z = true->c x z = true
section
variable {prog:Program} {w:World} {A:Around} {s:Shared} {E:Value->Shared->Prop} {κ:SortKind} {M:Keyed->Prop} {c:Keyed->Keyed->Bool}
theorem tw (L:sY prog w A s κ M c) {x y:Keyed} (hx:M x) (hy:M y) {st:SortSt} (hk:PyProof.Rows.kindOf st = κ) {Q:Option Bool->SortSt->Prop} (q:Q (some (c x y)) st):wpS (model prog w) A E s (CU x y) Q st:=by
 unfold CU
 delta lt
 refine wpS_bind (wpS_get ?_);refine wpS_bind (wpS_lift ?_);refine wpAny_attempt ?_;have:=L.ask x y hx hy (fun b s'=>s' = s/\wpS (model prog w) A E s (match (Except.ok b:Except Value Bool) with
  | Except.ok b=>pure (some b)
  | Except.error e=>do
   modify fun x=>SortSt.mk' (PyProof.Rows.kindOf x) (arrOf x) (pendingOf x) (gallopOf x) (some e)
   pure none) Q st) ⟨rfl,wpS_pure q⟩
 rw [<- hk] at this;exact wpAny_mono this (fun _ _ h=>h) fun _ _ h=>h.elim
theorem aU {arr:Array Keyed} {i:Nat} {p:Keyed} (h:arr[i]? = some p) {st:SortSt} {Q:Keyed->SortSt->Prop} (q:Q p st):wpS (model prog w) A E s (zQ arr i) Q st:=by
 show wpS (model prog w) A E s (elem' arr i) Q st;rw [elem'_eq,h];exact wpS_pure q
abbrev CA {β:Type} (D Y:β->SortSt->Prop):ForInStep β->SortSt->Prop
 | .done b,st=>D b st
 | .yield b,st=>Y b st
theorem cW {f : Nat -> β -> StateT SortSt Sem (ForInStep β)} {Q : β -> SortSt -> Prop} (I : Nat -> β -> SortSt -> Prop)
    (step:∀ x k b st,I k b st->wpS (model prog w) A E s (f x b) (CA Q (fun b' bj=>∃ k',k' < k/\I k' b' bj)) st) :
    ∀ (l:List Nat) (k:Nat) (b:β) (st:SortSt),k < l.length->I k b st->wpS (model prog w) A E s (forIn l b f) Q st
 | [],k,b,st,h,_=>absurd h (Nat.not_lt_zero _)
 | x :: l,k,b,st,h,i=>by
  rw [List.forIn_cons];refine wpS_bind (wpS_mono (step x k b st i) fun r bj hr=>?_)
  cases r with
  | done b'=>exact wpS_pure hr
  | yield b' =>
   obtain ⟨k',h1,h2⟩:=hr;exact cW I step l k' b' bj (by rw [List.length_cons] at h;omega) h2
theorem nF {f : Nat -> β -> StateT SortSt Sem (ForInStep β)} {Q : β -> SortSt -> Prop} (I : Nat -> β -> SortSt -> Prop)
    (step:∀ x k b st,I k b st->wpS (model prog w) A E s (f x b) (CA Q (fun b' bj=>∃ k',k' < k/\I k' b' bj)) st)
    (fin:∀ b st,I 0 b st->Q b st) :
    ∀ (l:List Nat) (k:Nat) (b:β) (st:SortSt),k <= l.length->I k b st->wpS (model prog w) A E s (forIn l b f) Q st
 | [],k,b,st,h,i=>by
  obtain rfl:k = 0:=Nat.le_zero.mp h;rw [List.forIn_nil];exact wpS_pure (fin b st i)
 | x :: l,k,b,st,h,i=>by
  rw [List.forIn_cons];refine wpS_bind (wpS_mono (step x k b st i) fun r bj hr=>?_)
  cases r with
  | done b'=>exact wpS_pure hr
  | yield b' =>
   obtain ⟨k',h1,h2⟩:=hr;exact nF I step fin l k' b' bj (by rw [List.length_cons] at h;omega) h2
theorem range_list {f:Nat->β->StateT SortSt Sem (ForInStep β)} {a n:Nat} {b:β}:(forIn [a:n] b f:StateT SortSt Sem β) = forIn (List.range' a (n - a)) b f:=by
 rw [Std.Legacy.Range.forIn_eq_forIn_range'];simp [Std.Legacy.Range.size]
end
end TS
namespace TS
open PySem PySem.W PyProof.Rows
local macro_rules | `(term| type_of% $n:ident) => return Lean.mkIdent (Lean.mkPrivateNameCore `PySem.Builtin.List.W1All (`PySem.Builtin ++ n.getId))
local macro_rules | `(tactic| delta $n:ident) => if Lean.isPrivateName n.getId then Lean.Macro.throwUnsupported else `(tactic| delta $(Lean.mkIdent (Lean.mkPrivateNameCore `PySem.Builtin.List.W1All (`PySem.Builtin ++ n.getId))):ident)
section
variable {prog:Program} {w:World} {A:Around} {s:Shared} {E:Value->Shared->Prop} {κ:SortKind} {M:Keyed->Prop} {c:Keyed->Keyed->Bool}
theorem fU (L : sY prog w A s κ M c) {left : Bool} {key x : Keyed} {arr : Array Keyed} {j : Nat} {b : Bool} {st : SortSt} (p7 : M key) (hx : arr[j]? = some x) (mx : M x) (hb : b = if left then c x key else !(c key x)) (hk : PyProof.Rows.kindOf st = κ) {Q : Option Bool -> SortSt -> Prop} (q : Q (some b) st) :
    wpS (model prog w) A E s (zQ arr j >>= fun x=>if left = true then CU x key else CU key x >>= fun r=>pure (Option.map (fun x=>!x) r)) Q st:=by
 refine wpS_bind (aU hx ?_)
 cases left with
 | true =>
  rw [if_pos rfl];refine tw L mx p7 hk ?_;rw [hb] at q;exact q
 | false =>
  rw [if_neg (by decide)];refine wpS_bind (tw L p7 mx hk (wpS_pure ?_));rw [hb] at q;exact q
theorem ql (L : sY prog w A s κ M c) {left : Bool} {key : Keyed} {arr : Array Keyed} {base n hint : Nat} {st : SortSt} {Q : Option Nat -> SortSt -> Prop} (p : Nat -> Bool)
    (p7:M key) (B0:∀ i,i < n->∃ x,arr[base + i]? = some x/\M x/\p i = if left then c x key else !(c key x))
    (hh:hint < n) (mono:∀ i j,i <= j->j < n->p j = true->p i = true) (hk:PyProof.Rows.kindOf st = κ)
    (q:∀ k,k <= n->(∀ i,i < k->p i = true)->(∀ i,k <= i->i < n->p i = false)->Q (some k) st) :
    wpS (model prog w) A E s (jY left key arr base n hint) Q st:=by
 have xN:∀ i j,i <= j->j < n->p i = false->p j = false:=fun i j h1 h2 h3=>by
  cases e:p j with
  | false=>rfl
  | true=>rw [mono i j h1 h2 e] at h3;cases h3
 unfold jY
 delta gallop
 dsimp only;obtain ⟨x,hx,mx,px⟩:=B0 hint hh;refine wpS_bind (fU L p7 hx mx px hk ?_);dsimp only
 cases e:p hint with
 | true =>
  rw [if_pos rfl];refine wpS_bind ?_;rw [range_list];refine wpS_mono (Q:=fun (b:Option (Option Nat) × Nat × Nat) bj=>st = bj/\b.1 = none/\b.2.1 < b.2.2/\hint + b.2.1 < n/\p (hint + b.2.1) = true/\(hint + b.2.2 < n->p (hint + b.2.2) = false))
   (cW (fun k (b:Option (Option Nat) × Nat × Nat) bj=>st = bj/\b.1 = none/\b.2.1 < b.2.2/\hint + b.2.1 < n/\p (hint + b.2.1) = true/\k = n - hint - 1 - b.2.1) ?_ _ (n - hint - 1) _ _ (by rw [List.length_range'];omega) ⟨rfl,rfl,by decide,by dsimp only;omega,e,by dsimp only;omega⟩) ?_
  ·rintro y k ⟨r,di,pH⟩ bj ⟨rfl,rfl,h1,h2,h3,h4⟩;dsimp only at h1 h2 h3 h4 ⊢
   by_cases g:pH >= n - hint
   ·rw [if_pos g];exact wpS_pure ⟨rfl,rfl,h1,h2,h3,fun z=>by dsimp only at z;omega⟩
   ·rw [if_neg g];obtain ⟨x,hx,mx,px⟩:=B0 (hint + pH) (by omega);refine wpS_bind (fU L p7 hx mx px hk ?_);dsimp only
    cases e2:p (hint + pH) with
    | false=>exact wpS_pure ⟨rfl,rfl,h1,h2,h3,fun _=>e2⟩
    | true=>exact wpS_pure ⟨_,show n - hint - 1 - pH < k by omega,rfl,rfl,by dsimp only;omega,by dsimp only;omega,e2,rfl⟩
  ·rintro ⟨r,di,pH⟩ bj ⟨rfl,rfl,h1,h2,h3,h4⟩;dsimp only at h1 h2 h3 h4 ⊢;have f1:∀ i,i < hint + di + 1->p i = true:=fun i hi=>mono i _ (by omega) h2 h3
   have f2:∀ i,hint + min pH (n - hint) <= i->i < n->p i = false:=fun i h5 h6=>by
    by_cases g:hint + pH < n
    ·exact xN _ i (by omega) h6 (h4 g)
    ·omega
   have f3:hint + di + 1 <= hint + min pH (n - hint):=by omega
   have f4:hint + min pH (n - hint) <= n:=by omega
   have f5:hint + min pH (n - hint) - (hint + di + 1) < n:=by omega
   generalize hint + di + 1 = lo at *;generalize hint + min pH (n - hint) = hi at *;refine wpS_bind ?_;rw [range_list];refine wpS_mono (Q:=fun (b:Option (Option Nat) × Nat × Nat) bj=>st = bj/\b.1 = none/\b.2.2 <= n/\(∀ i,i < b.2.2->p i = true)/\(∀ i,b.2.2 <= i->i < n->p i = false))
    (cW (fun k (b:Option (Option Nat) × Nat × Nat) bj=>st = bj/\b.1 = none/\b.2.1 <= b.2.2/\b.2.2 <= n/\(∀ i,i < b.2.1->p i = true)/\(∀ i,b.2.2 <= i->i < n->p i = false)/\k = b.2.2 - b.2.1) ?_ _ (hi - lo) _ _ (by rw [List.length_range'];omega) ⟨rfl,rfl,f3,f4,f1,f2,rfl⟩) ?_
   ·rintro y k ⟨r,l,h⟩ bj ⟨rfl,rfl,g1,g2,g3,g4,g5⟩;dsimp only at g1 g2 g3 g4 g5 ⊢
    by_cases g:l >= h
    ·rw [if_pos g];obtain rfl:l = h:=by omega
     exact wpS_pure ⟨rfl,rfl,g2,g3,g4⟩
    ·rw [if_neg g];obtain ⟨x,hx,mx,px⟩:=B0 (l + (h - l) / 2) (by omega);refine wpS_bind (fU L p7 hx mx px hk ?_);dsimp only
     cases e2:p (l + (h - l) / 2) with
     | true=>exact wpS_pure ⟨_,show h - (l + (h - l) / 2 + 1) < k by omega,rfl,rfl,by dsimp only;omega,g2,fun i hi=>mono i _ (by dsimp only at hi;omega) (by omega) e2,g4,rfl⟩
     | false=>exact wpS_pure ⟨_,show l + (h - l) / 2 - l < k by omega,rfl,rfl,by dsimp only;omega,by dsimp only;omega,g3,fun i h5 h6=>xN _ i h5 h6 e2,rfl⟩
   ·rintro ⟨r,l,h⟩ bj ⟨rfl,rfl,g1,g2,g3⟩;exact wpS_pure (q h g1 g2 g3)
 | false =>
  rw [if_neg (by decide)];refine wpS_bind ?_;rw [range_list];refine wpS_mono (Q:=fun (b:Option (Option Nat) × Nat × Nat) bj=>st = bj/\b.1 = none/\b.2.1 < b.2.2/\b.2.1 <= hint/\p (hint - b.2.1) = false/\(b.2.2 <= hint->p (hint - b.2.2) = true))
   (cW (fun k (b:Option (Option Nat) × Nat × Nat) bj=>st = bj/\b.1 = none/\b.2.1 < b.2.2/\b.2.1 <= hint/\p (hint - b.2.1) = false/\k = hint - b.2.1) ?_ _ hint _ _ (by rw [List.length_range'];omega) ⟨rfl,rfl,by decide,Nat.zero_le _,e,rfl⟩) ?_
  ·rintro y k ⟨r,di,pH⟩ bj ⟨rfl,rfl,h1,h2,h3,h4⟩;dsimp only at h1 h2 h3 h4 ⊢
   by_cases g:pH >= hint + 1
   ·rw [if_pos g];exact wpS_pure ⟨rfl,rfl,h1,h2,h3,fun z=>by dsimp only at z;omega⟩
   ·rw [if_neg g];obtain ⟨x,hx,mx,px⟩:=B0 (hint - pH) (by omega);refine wpS_bind (fU L p7 hx mx px hk ?_);dsimp only
    cases e2:p (hint - pH) with
    | true=>exact wpS_pure ⟨rfl,rfl,h1,h2,h3,fun _=>e2⟩
    | false=>exact wpS_pure ⟨_,show hint - pH < k by omega,rfl,rfl,by dsimp only;omega,by dsimp only;omega,e2,rfl⟩
  ·rintro ⟨r,di,pH⟩ bj ⟨rfl,rfl,h1,h2,h3,h4⟩;dsimp only at h1 h2 h3 h4 ⊢;have f1:∀ i,i < hint + 1 - min pH (hint + 1)->p i = true:=fun i hi=>by
    by_cases g:pH <= hint
    ·exact mono i _ (by omega) (by omega) (h4 g)
    ·omega
   have f2:∀ i,hint - di <= i->i < n->p i = false:=fun i h5 h6=>xN _ i h5 h6 h3
   have f3:hint + 1 - min pH (hint + 1) <= hint - di:=by omega
   have f4:hint - di <= n:=by omega
   have f5:hint - di - (hint + 1 - min pH (hint + 1)) < n:=by omega
   generalize hint + 1 - min pH (hint + 1) = lo at *;generalize hint - di = hi at *;refine wpS_bind ?_;rw [range_list];refine wpS_mono (Q:=fun (b:Option (Option Nat) × Nat × Nat) bj=>st = bj/\b.1 = none/\b.2.2 <= n/\(∀ i,i < b.2.2->p i = true)/\(∀ i,b.2.2 <= i->i < n->p i = false))
    (cW (fun k (b:Option (Option Nat) × Nat × Nat) bj=>st = bj/\b.1 = none/\b.2.1 <= b.2.2/\b.2.2 <= n/\(∀ i,i < b.2.1->p i = true)/\(∀ i,b.2.2 <= i->i < n->p i = false)/\k = b.2.2 - b.2.1) ?_ _ (hi - lo) _ _ (by rw [List.length_range'];omega) ⟨rfl,rfl,f3,f4,f1,f2,rfl⟩) ?_
   ·rintro y k ⟨r,l,h⟩ bj ⟨rfl,rfl,g1,g2,g3,g4,g5⟩;dsimp only at g1 g2 g3 g4 g5 ⊢
    by_cases g:l >= h
    ·rw [if_pos g];obtain rfl:l = h:=by omega
     exact wpS_pure ⟨rfl,rfl,g2,g3,g4⟩
    ·rw [if_neg g];obtain ⟨x,hx,mx,px⟩:=B0 (l + (h - l) / 2) (by omega);refine wpS_bind (fU L p7 hx mx px hk ?_);dsimp only
     cases e2:p (l + (h - l) / 2) with
     | true=>exact wpS_pure ⟨_,show h - (l + (h - l) / 2 + 1) < k by omega,rfl,rfl,by dsimp only;omega,g2,fun i hi=>mono i _ (by dsimp only at hi;omega) (by omega) e2,g4,rfl⟩
     | false=>exact wpS_pure ⟨_,show l + (h - l) / 2 - l < k by omega,rfl,rfl,by dsimp only;omega,by dsimp only;omega,g3,fun i h5 h6=>xN _ i h5 h6 e2,rfl⟩
   ·rintro ⟨r,l,h⟩ bj ⟨rfl,rfl,g1,g2,g3⟩;exact wpS_pure (q h g1 g2 g3)
end
end TS
namespace TS
open PySem PySem.W PyProof.Rows
variable {c:Keyed->Keyed->Bool} {x y:Keyed} {k base n:Nat} {arr:Array Keyed} {st:SortSt}
abbrev fT (c:Keyed->Keyed->Bool) (l:List Keyed):Prop:=l.Pairwise fun x y=>c x y = true
structure LI (M:Keyed->Prop) (c:Keyed->Keyed->Bool) (all out A B:List Keyed):Prop where
 pm:(out ++ (A ++ B)).Perm all
 so:fT c out
 sa:fT c A
 sb:fT c B
 lt:∀ x ∈ out,∀ y ∈ A ++ B,c x y = true
 mm:∀ x ∈ all,M x
 nd:all.Nodup
section
variable {M:Keyed->Prop} {all out A B A1 A2 B1 B2:List Keyed}
theorem LI.memA (h:LI M c all out A B) (hx:x ∈ A):M x:=h.mm x (h.pm.mem_iff.mp (List.mem_append_right _ (List.mem_append_left _ hx)))
theorem LI.memB (h:LI M c all out A B) (hx:x ∈ B):M x:=h.mm x (h.pm.mem_iff.mp (List.mem_append_right _ (List.mem_append_right _ hx)))
theorem LI.ne (h:LI M c all out A B) (hx:x ∈ A) (hy:y ∈ B):x ≠ y:=by
 have:=(h.pm.nodup_iff.mpr h.nd);rw [List.nodup_append] at this;have:=this.2.1;rw [List.nodup_append] at this;exact this.2.2 x hx y hy
theorem LI.takeA (h:LI M c all out (A1 ++ A2) B) (l:∀ x ∈ A1,∀ y ∈ B,c x y = true):LI M c all (out ++ A1) A2 B:=by
 obtain ⟨pm,so,sa,sb,lt,mm,nd⟩:=h;have Gq:=List.pairwise_append.mp sa;refine ⟨by rw [List.append_assoc,<- List.append_assoc A1];exact pm,List.pairwise_append.mpr ⟨so,Gq.1,fun x hx y hy=>lt x hx y (by simp [hy])⟩,Gq.2.1,sb,fun x hx y hy=>?_,mm,nd⟩
 rcases List.mem_append.mp hx with hx | hx
 ·exact lt x hx y (by rw [List.append_assoc];exact List.mem_append_right _ hy)
 ·rcases List.mem_append.mp hy with hy | hy
  ·exact Gq.2.2 x hx y hy
  ·exact l x hx y hy
theorem LI.takeB (h:LI M c all out A (B1 ++ B2)) (l:∀ x ∈ B1,∀ y ∈ A,c x y = true):LI M c all (out ++ B1) A B2:=by
 obtain ⟨pm,so,sa,sb,lt,mm,nd⟩:=h;have Gp:=List.pairwise_append.mp sb;refine ⟨List.Perm.trans ?_ pm,List.pairwise_append.mpr ⟨so,Gp.1,fun x hx y hy=>lt x hx y (by simp [hy])⟩,sa,Gp.2.1,fun x hx y hy=>?_,mm,nd⟩
 ·rw [List.append_assoc];refine List.Perm.append_left out ?_;rw [<- List.append_assoc,<- List.append_assoc];exact List.Perm.append_right B2 List.perm_append_comm
 ·rcases List.mem_append.mp hx with hx | hx
  ·refine lt x hx y ?_
   rcases List.mem_append.mp hy with hy | hy
   ·exact List.mem_append_left _ hy
   ·exact List.mem_append_right _ (List.mem_append_right _ hy)
  ·rcases List.mem_append.mp hy with hy | hy
   ·exact l x hx y hy
   ·exact Gp.2.2 x hx y hy
theorem LI.finA (h:LI M c all out A B) (e:B = []):(out ++ A ++ B).Perm all/\fT c (out ++ A ++ B):=by
 subst e;refine ⟨by rw [List.append_assoc];exact h.pm,?_⟩;rw [List.append_nil];exact List.pairwise_append.mpr ⟨h.so,h.sa,fun x hx y hy=>h.lt x hx y (by simp [hy])⟩
theorem LI.finB (h:LI M c all out A B) (e:A = []):(out ++ A ++ B).Perm all/\fT c (out ++ A ++ B):=by
 subst e;refine ⟨by rw [List.append_assoc];exact h.pm,?_⟩;rw [List.append_nil];exact List.pairwise_append.mpr ⟨h.so,h.sb,fun x hx y hy=>h.lt x hx y (by simp [hy])⟩
theorem LI.finL (h:LI M c all out A B) (l:∀ x ∈ B,∀ y ∈ A,c x y = true):(out ++ B ++ A).Perm all/\fT c (out ++ B ++ A):=by
 refine ⟨List.Perm.trans ?_ h.pm,?_⟩
 ·rw [List.append_assoc];exact List.Perm.append_left out List.perm_append_comm
 ·rw [List.append_assoc];exact List.pairwise_append.mpr ⟨h.so,List.pairwise_append.mpr ⟨h.sb,h.sa,l⟩,fun x hx y hy=>h.lt x hx y (by
   rcases List.mem_append.mp hy with hy | hy
   ·exact List.mem_append_right _ hy
   ·exact List.mem_append_left _ hy)⟩
end
structure HI (M:Keyed->Prop) (c:Keyed->Keyed->Bool) (all A B out:List Keyed):Prop where
 pm:((A ++ B) ++ out).Perm all
 so:fT c out
 sa:fT c A
 sb:fT c B
 lt:∀ x ∈ A ++ B,∀ y ∈ out,c x y = true
 mm:∀ x ∈ all,M x
 nd:all.Nodup
section
variable {M:Keyed->Prop} {all out A B A1 A2 B1 B2:List Keyed}
theorem HI.memA (h:HI M c all A B out) (hx:x ∈ A):M x:=h.mm x (h.pm.mem_iff.mp (List.mem_append_left _ (List.mem_append_left _ hx)))
theorem HI.memB (h:HI M c all A B out) (hx:x ∈ B):M x:=h.mm x (h.pm.mem_iff.mp (List.mem_append_left _ (List.mem_append_right _ hx)))
theorem HI.ne (h:HI M c all A B out) (hx:x ∈ A) (hy:y ∈ B):x ≠ y:=by
 have:=(h.pm.nodup_iff.mpr h.nd);rw [List.nodup_append] at this;have:=this.1;rw [List.nodup_append] at this;exact this.2.2 x hx y hy
theorem HI.takeA (h:HI M c all (A1 ++ A2) B out) (l:∀ x ∈ B,∀ y ∈ A2,c x y = true):HI M c all A1 B (A2 ++ out):=by
 obtain ⟨pm,so,sa,sb,lt,mm,nd⟩:=h;have Gq:=List.pairwise_append.mp sa;refine ⟨List.Perm.trans ?_ pm,List.pairwise_append.mpr ⟨Gq.2.1,so,fun x hx y hy=>lt x (by simp [hx]) y hy⟩,Gq.1,sb,fun x hx y hy=>?_,mm,nd⟩
 ·rw [<- List.append_assoc];refine List.Perm.append_right out ?_;rw [List.append_assoc,List.append_assoc];exact List.Perm.append_left A1 List.perm_append_comm
 ·rcases List.mem_append.mp hy with hy | hy
  ·rcases List.mem_append.mp hx with hx | hx
   ·exact Gq.2.2 x hx y hy
   ·exact l x hx y hy
  ·refine lt x ?_ y hy
   rcases List.mem_append.mp hx with hx | hx
   ·exact List.mem_append_left _ (List.mem_append_left _ hx)
   ·exact List.mem_append_right _ hx
theorem HI.takeB (h:HI M c all A (B1 ++ B2) out) (l:∀ x ∈ A,∀ y ∈ B2,c x y = true):HI M c all A B1 (B2 ++ out):=by
 obtain ⟨pm,so,sa,sb,lt,mm,nd⟩:=h;have Gp:=List.pairwise_append.mp sb;refine ⟨by rw [<- List.append_assoc,List.append_assoc A];exact pm,List.pairwise_append.mpr ⟨Gp.2.1,so,fun x hx y hy=>lt x (by simp [hx]) y hy⟩,sa,Gp.1,fun x hx y hy=>?_,mm,nd⟩
 rcases List.mem_append.mp hy with hy | hy
 ·rcases List.mem_append.mp hx with hx | hx
  ·exact l x hx y hy
  ·exact Gp.2.2 x hx y hy
 ·refine lt x ?_ y hy
  rcases List.mem_append.mp hx with hx | hx
  ·exact List.mem_append_left _ hx
  ·exact List.mem_append_right _ (List.mem_append_left _ hx)
theorem HI.finA (h:HI M c all A B out) (e:A = []):(A ++ B ++ out).Perm all/\fT c (A ++ B ++ out):=by
 subst e;refine ⟨h.pm,List.pairwise_append.mpr ⟨h.sb,h.so,fun x hx y hy=>h.lt x hx y hy⟩⟩
theorem HI.finB (h:HI M c all A B out) (e:B = []):(A ++ B ++ out).Perm all/\fT c (A ++ B ++ out):=by
 subst e;refine ⟨h.pm,List.pairwise_append.mpr ⟨by rw [List.append_nil];exact h.sa,h.so,fun x hx y hy=>h.lt x hx y hy⟩⟩
theorem HI.finL (h:HI M c all A B out) (l:∀ x ∈ B,∀ y ∈ A,c x y = true):(B ++ A ++ out).Perm all/\fT c (B ++ A ++ out) :=
 ⟨(List.Perm.append_right out List.perm_append_comm).trans h.pm, List.pairwise_append.mpr ⟨List.pairwise_append.mpr ⟨h.sb, h.sa, l⟩, h.so, fun x hx y hy => h.lt x (by
     rcases List.mem_append.mp hx with hx | hx
     ·exact List.mem_append_right _ hx
     ·exact List.mem_append_left _ hx) y hy⟩⟩
end
section
variable {a:Array Keyed} {i:Nat}
theorem oO:(a.extract i (i + k)).toList = (a.toList.drop i).take k:=by
 rw [Array.toList_extract,List.extract_eq_take_drop]
 congr 1
 omega
theorem ku:(a.extract i).toList = a.toList.drop i:=by
 rw [Array.toList_extract,List.extract_eq_take_drop,List.take_of_length_le];rw [List.length_drop,Array.length_toList];exact Nat.le_refl _
theorem i0 (h:i < a.size):∃ x,a[i]? = some x/\a.toList.drop i = x :: a.toList.drop (i + 1) :=
 ⟨a[i],Array.getElem?_eq_getElem h,by rw [<- Array.getElem_toList];exact List.drop_eq_getElem_cons (by rw [Array.length_toList];exact h)⟩
theorem oS:a.toList.drop i = (a.toList.drop i).take k ++ a.toList.drop (i + k):=by
 rw [<- List.drop_drop];exact (List.take_append_drop k _).symm
theorem qS (h:a.size <= i):a.toList.drop i = []:=List.drop_eq_nil_of_le (by rw [Array.length_toList];exact h)
end
local macro_rules | `(term| type_of% $n:ident) => return Lean.mkIdent (Lean.mkPrivateNameCore `PySem.Builtin.List.W1All (`PySem.Builtin ++ n.getId))
local macro_rules | `(tactic| delta $n:ident) => if Lean.isPrivateName n.getId then Lean.Macro.throwUnsupported else `(tactic| delta $(Lean.mkIdent (Lean.mkPrivateNameCore `PySem.Builtin.List.W1All (`PySem.Builtin ++ n.getId))):ident)
section
variable {prog:Program} {w:World} {A:Around} {s:Shared} {E:Value->Shared->Prop} {κ:SortKind} {M:Keyed->Prop}
theorem seg_at (hn:base + n <= arr.size) {i:Nat} (hi:i < n):∃ (h:i < ((arr.toList.drop base).take n).length),arr[base + i]? = some (((arr.toList.drop base).take n)[i]):=by
 have h:i < ((arr.toList.drop base).take n).length:=by
  rw [List.length_take,List.length_drop,Array.length_toList];omega
 refine ⟨h,?_⟩;rw [List.getElem_take,List.getElem_drop,<- Array.getElem?_toList,List.getElem?_eq_getElem]
theorem tG {l:List Keyed} (hk:k <= n) (h:x ∈ l.take k):∃ i,∃ hi:i < (l.take n).length,i < k/\(l.take n)[i] = x:=by
 obtain ⟨i,hi,e⟩:=List.getElem_of_mem h;rw [List.length_take] at hi;refine ⟨i,by rw [List.length_take];omega,by omega,?_⟩;rw [List.getElem_take] at e ⊢;exact e
theorem ve {l:List Keyed} (h:x ∈ l.drop k):∃ i,∃ hi:i < l.length,k <= i/\l[i] = x:=by
 obtain ⟨i,hi,e⟩:=List.getElem_of_mem h;rw [List.length_drop] at hi;rw [List.getElem_drop] at e;exact ⟨k + i,by omega,by omega,e⟩
theorem lM (L : sY prog w A s κ M c) {hint : Nat} {Q : Option Nat -> SortSt -> Prop} (hn : base + n <= arr.size) (hs : fT c ((arr.toList.drop base).take n))
    (hm:∀ x ∈ (arr.toList.drop base).take n,M x) (my:M y) (hh:hint < n) (hk:PyProof.Rows.kindOf st = κ)
    (q:∀ k,k <= n->(∀ x ∈ (arr.toList.drop base).take k,c y x = false)->(∀ x ∈ ((arr.toList.drop base).take n).drop k,c y x = true)->Q (some k) st) :
    wpS (model prog w) A E s (jY false y arr base n hint) Q st:=by
 have hl:((arr.toList.drop base).take n).length = n:=by rw [List.length_take,List.length_drop,Array.length_toList];omega
 have pg:=List.pairwise_iff_getElem.mp hs;refine ql L (fun i=>!(c y (((arr.toList.drop base).take n).getD i y))) my (fun i hi=>?_) hh (fun i j uU hj e=>?_) hk fun k K7 f1 f2=>q k K7 (fun x hx=>?_) fun x hx=>?_
 ·obtain ⟨h1,h2⟩:=seg_at hn hi;refine ⟨_,h2,hm _ (List.getElem_mem h1),?_⟩;rw [List.getD_eq_getElem?_getD,List.getElem?_eq_getElem h1]
  rfl
 ·have hi:i < ((arr.toList.drop base).take n).length:=by omega
  have hj:j < ((arr.toList.drop base).take n).length:=by omega
  rw [List.getD_eq_getElem?_getD,List.getElem?_eq_getElem hi];rw [List.getD_eq_getElem?_getD,List.getElem?_eq_getElem hj] at e;simp only [Option.getD_some,Bool.not_eq_true'] at e ⊢
  by_cases g:i = j
  ·subst g;exact e
  ·cases z:c y (((arr.toList.drop base).take n)[i]) with
   | false=>rfl
   | true=>rw [L.trans _ _ _ my (hm _ (List.getElem_mem hi)) (hm _ (List.getElem_mem hj)) z (pg i j hi hj (by omega))] at e;cases e
 ·obtain ⟨i,hi,h1,rfl⟩:=tG K7 hx;have:=f1 i h1;rw [List.getD_eq_getElem?_getD,List.getElem?_eq_getElem hi] at this;simpa using this
 ·obtain ⟨i,hi,h1,rfl⟩:=ve hx;have:=f2 i h1 (by omega);rw [List.getD_eq_getElem?_getD,List.getElem?_eq_getElem hi] at this;simpa using this
theorem oK (L : sY prog w A s κ M c) {hint : Nat} {Q : Option Nat -> SortSt -> Prop} (hn : base + n <= arr.size) (hs : fT c ((arr.toList.drop base).take n))
    (hm:∀ x ∈ (arr.toList.drop base).take n,M x) (my:M y) (hh:hint < n) (hk:PyProof.Rows.kindOf st = κ)
    (q:∀ k,k <= n->(∀ x ∈ (arr.toList.drop base).take k,c x y = true)->(∀ x ∈ ((arr.toList.drop base).take n).drop k,c x y = false)->Q (some k) st) :
    wpS (model prog w) A E s (jY true y arr base n hint) Q st:=by
 have hl:((arr.toList.drop base).take n).length = n:=by rw [List.length_take,List.length_drop,Array.length_toList];omega
 have pg:=List.pairwise_iff_getElem.mp hs;refine ql L (fun i=>c (((arr.toList.drop base).take n).getD i y) y) my (fun i hi=>?_) hh (fun i j uU hj e=>?_) hk fun k K7 f1 f2=>q k K7 (fun x hx=>?_) fun x hx=>?_
 ·obtain ⟨h1,h2⟩:=seg_at hn hi;refine ⟨_,h2,hm _ (List.getElem_mem h1),?_⟩;rw [List.getD_eq_getElem?_getD,List.getElem?_eq_getElem h1]
  rfl
 ·have hi:i < ((arr.toList.drop base).take n).length:=by omega
  have hj:j < ((arr.toList.drop base).take n).length:=by omega
  rw [List.getD_eq_getElem?_getD,List.getElem?_eq_getElem hi];rw [List.getD_eq_getElem?_getD,List.getElem?_eq_getElem hj] at e;simp only [Option.getD_some] at e ⊢
  by_cases g:i = j
  ·subst g;exact e
  ·exact L.trans _ _ _ (hm _ (List.getElem_mem hi)) (hm _ (List.getElem_mem hj)) my (pg i j hi hj (by omega)) e
 ·obtain ⟨i,hi,h1,rfl⟩:=tG K7 hx;have:=f1 i h1;rw [List.getD_eq_getElem?_getD,List.getElem?_eq_getElem hi] at this;simpa using this
 ·obtain ⟨i,hi,h1,rfl⟩:=ve hx;have:=f2 i h1 (by omega);rw [List.getD_eq_getElem?_getD,List.getElem?_eq_getElem hi] at this;simpa using this
abbrev Gs (st:SortSt) (g:Nat):SortSt:=SortSt.mk' (PyProof.Rows.kindOf st) (arrOf st) (pendingOf st) g (failedOf st)
theorem rp {g g':Nat} {Q:Unit->SortSt->Prop} (q:Q () (Gs st g)):wpS (model prog w) A E s (ET g) Q (Gs st g'):=by
 unfold ET
 delta setMinGallop
 exact wpS_modify q
theorem iO {n:String} {Q:Unit->SortSt->Prop} (q:Q () st):wpS (model prog w) A E s (liftM (rule n)) Q st:=by
 refine wpS_lift ?_;exact wpAny_rule ⟨rfl,q⟩
end
end TS
namespace TS
open PySem.W PyProof.Rows
theorem ax {Md:PySem.Model} {A:PySem.Around} {E:PySem.Value->PySem.Shared->Prop} {s:PySem.Shared} {σ α:Type} {p:Prop} [Decidable p] {x y:StateT σ PySem.Sem α} {Q:α->σ->Prop} {st:σ} (h1:p->wpS Md A E s x Q st) (h2:¬ p->wpS Md A E s y Q st):wpS Md A E s (if p then x else y) Q st:=by
 by_cases h:p
 ·rw [if_pos h];exact h1 h
 ·rw [if_neg h];exact h2 h
end TS
namespace TS
local macro_rules | `(tactic| lcg_src) => `(tactic| try dsimp (zeta := false) (zetaUnused := false) only)
local macro_rules | `(tactic| lcg_sub) => `(tactic| (extract_lets +onlyGivenNames -underBinder -merge -useContext zz; subst zz; try dsimp (zeta := false) (zetaUnused := false) only))
open PySem PySem.W PyProof.Rows
local macro_rules | `(term| type_of% $n:ident) => return Lean.mkIdent (Lean.mkPrivateNameCore `PySem.Builtin.List.W1All (`PySem.Builtin ++ n.getId))
local macro_rules | `(tactic| delta $n:ident) => if Lean.isPrivateName n.getId then Lean.Macro.throwUnsupported else `(tactic| delta $(Lean.mkIdent (Lean.mkPrivateNameCore `PySem.Builtin.List.W1All (`PySem.Builtin ++ n.getId))):ident)
section
variable {prog:Program} {w:World} {A:Around} {s:Shared} {E:Value->Shared->Prop} {κ:SortKind} {M:Keyed->Prop} {c:Keyed->Keyed->Bool}
variable {a b:Array Keyed} {all:List Keyed}
theorem Ez {x:Keyed} {l:List Keyed} (h:fT c (x :: l)):∀ z ∈ l,c x z = true:=(List.pairwise_cons.mp h).1
theorem iF (L:sY prog w A s κ M c) {x y:Keyed} {l:List Keyed} (h:fT c (x :: l)) (mx:M x) (my:M y) (ml:∀ z ∈ l,M z) (e:c y x = true):∀ z ∈ x :: l,c y z = true:=fun z hz=>by
 rcases List.mem_cons.mp hz with rfl | hz
 ·exact e
 ·exact L.trans _ _ _ my mx (ml z hz) e (Ez h z hz)
abbrev Nv (M:Keyed->Prop) (c:Keyed->Keyed->Bool) (all:List Keyed) (a b:Array Keyed) (st:SortSt) (k:Nat) (r:Option (Array Keyed) × Array Keyed × Nat × Nat × Nat × Nat × Nat) (bj:SortSt):Prop :=
 ∃ g,bj = Gs st g/\((∃ out,r.1 = some out/\out.toList.Perm all/\fT c out.toList) \/ (r.1 = none/\LI M c all r.2.1.toList (a.toList.drop r.2.2.1) (b.toList.drop r.2.2.2.1)/\r.2.2.1 + 1 < a.size/\r.2.2.2.1 < b.size/\0 < r.2.2.2.1/\a.size - r.2.2.1 + (b.size - r.2.2.2.1) < k))
abbrev Nu (M:Keyed->Prop) (c:Keyed->Keyed->Bool) (all:List Keyed) (a b:Array Keyed) (st:SortSt) (k k':Nat) (r:Option (Array Keyed) × Array Keyed × Nat × Nat × Nat × Nat × Nat) (bj:SortSt):Prop :=
 ∃ g,bj = Gs st g/\r.1 = none/\LI M c all r.2.1.toList (a.toList.drop r.2.2.1) (b.toList.drop r.2.2.2.1)/\r.2.2.1 + 1 < a.size/\r.2.2.2.1 < b.size/\0 < r.2.2.2.1/\k' = a.size - r.2.2.1 + (b.size - r.2.2.2.1)/\k' < k
theorem JD (L : sY prog w A s κ M c) {st : SortSt} {Q : Array Keyed -> SortSt -> Prop} (h : LI M c all [] a.toList b.toList) (na : 0 < a.size) (nb : 0 < b.size)
    (h0:∀ x,b[0]? = some x->∀ y ∈ a.toList,c x y = true) (hl:∀ x ∈ b.toList,∀ y ∈ a.toList.drop (a.size - 1),c x y = true) (hk:PyProof.Rows.kindOf st = κ)
    (q:∀ r g,r.toList.Perm all->fT c r.toList->Q r (Gs st g)):wpS (model prog w) A E s (JF a b) Q st:=by
 have eD:∀ (out:Array Keyed) ia ib,(out ++ a.extract ia ++ b.extract ib).toList = out.toList ++ a.toList.drop ia ++ b.toList.drop ib:=fun out ia ib=>by
  rw [Array.toList_append,Array.toList_append,ku,ku]
 have eL:∀ (out:Array Keyed) ia ib,(out ++ b.extract ib ++ a.extract ia).toList = out.toList ++ b.toList.drop ib ++ a.toList.drop ia:=fun out ia ib=>by
  rw [Array.toList_append,Array.toList_append,ku,ku]
 have xP:∀ {out:Array Keyed} {ia ib:Nat},LI M c all out.toList (a.toList.drop ia) (b.toList.drop ib)->ia + 1 = a.size->(out ++ b.extract ib ++ a.extract ia).toList.Perm all/\fT c (out ++ b.extract ib ++ a.extract ia).toList:=fun {out ia ib} h e=>by
  rw [eL];refine h.finL fun x hx y hy=>hl x (List.mem_of_mem_drop hx) y ?_
  rw [show a.size - 1 = ia by omega];exact hy
 have qT:∀ {out:Array Keyed} {ia ib:Nat},LI M c all out.toList (a.toList.drop ia) (b.toList.drop ib)->ib = b.size->(out ++ a.extract ia ++ b.extract ib).toList.Perm all/\fT c (out ++ a.extract ia ++ b.extract ib).toList:=fun {out ia ib} h e=>by
  rw [eD];exact h.finA (qS (by omega))
 have qU:∀ {out:Array Keyed} {ia ib:Nat},LI M c all out.toList (a.toList.drop ia) (b.toList.drop ib)->ia = a.size->(out ++ a.extract ia ++ b.extract ib).toList.Perm all/\fT c (out ++ a.extract ia ++ b.extract ib).toList:=fun {out ia ib} h e=>by
  rw [eD];exact h.finB (qS (by omega))
 have Iz:∀ g,PyProof.Rows.kindOf (Gs st g) = κ:=fun _=>hk
 unfold JF
 delta mergeLo
 lcg_src;refine wpS_bind (iO ?_);obtain ⟨b0,Jv,Nn⟩:=i0 (a:=b) nb;refine wpS_bind (aU Jv ?_);have i1:LI M c all (#[b0]:Array Keyed).toList (a.toList.drop 0) (b.toList.drop 1):=by
  have:=LI.takeB (out:=[]) (A:=a.toList) (B1:=[b0]) (B2:=b.toList.drop 1) (by rw [List.drop_zero] at Nn;rw [Nn] at h;exact h) fun x hx y hy=>by
   rw [List.mem_singleton.mp hx];exact h0 b0 Jv y hy
  exact this
 by_cases e1:1 = b.size
 ·rw [if_pos (by rw [<- e1];rfl)];have:=qT i1 e1;exact wpS_pure (q _ (gallopOf st) this.1 this.2)
 rw [if_neg (by simpa using e1)]
 by_cases e2:0 + 1 = a.size
 ·rw [if_pos (by rw [<- e2];rfl)];have:=xP i1 e2;exact wpS_pure (q _ (gallopOf st) this.1 this.2)
 rw [if_neg (by simpa using e2)];refine wpS_bind (wpS_get ?_);refine wpS_bind ?_;rw [range_list];refine wpS_mono (Q:=fun (r:Option (Array Keyed) × Array Keyed × Nat × Nat × Nat) bj=>∃ out g,r.1 = some out/\bj = Gs st g/\out.toList.Perm all/\fT c out.toList)
  (cW (fun k (r:Option (Array Keyed) × Array Keyed × Nat × Nat × Nat) bj=>∃ g,bj = Gs st g/\r.1 = none/\LI M c all r.2.1.toList (a.toList.drop r.2.2.1) (b.toList.drop r.2.2.2.1)/\r.2.2.1 + 1 < a.size/\r.2.2.2.1 < b.size/\0 < r.2.2.2.1/\k = a.size - r.2.2.1 + (b.size - r.2.2.2.1)) ?_ _ (a.size + (b.size - 1)) _ _ (by rw [List.length_range'];omega) ⟨gallopOf st,rfl,rfl,i1,by dsimp only;omega,by dsimp only;omega,Nat.one_pos,by dsimp only;omega⟩) ?_
 ·rintro _ k ⟨r0,out,ia,ib,mg⟩ bj ⟨g,rfl,rfl,i2,ha,hb,hp,uT⟩;dsimp only at i2 ha hb hp uT
  (lcg_src;lcg_sub;lcg_sub;lcg_sub;lcg_sub;lcg_sub;lcg_sub;lcg_sub;lcg_sub;lcg_sub)
  refine wpS_bind ?_;rw [range_list];refine wpS_mono (Q:=fun (r:Option (Array Keyed) × Array Keyed × Nat × Nat × Nat × Nat) bj=>bj = Gs st g/\((∃ out,r.1 = some out/\out.toList.Perm all/\fT c out.toList) \/ (r.1 = none/\LI M c all r.2.1.toList (a.toList.drop r.2.2.1) (b.toList.drop r.2.2.2.1)/\r.2.2.1 + 1 < a.size/\r.2.2.2.1 < b.size/\0 < r.2.2.2.1/\a.size - r.2.2.1 + (b.size - r.2.2.2.1) < k)))
   (cW (fun k' (r:Option (Array Keyed) × Array Keyed × Nat × Nat × Nat × Nat) bj=>bj = Gs st g/\r.1 = none/\LI M c all r.2.1.toList (a.toList.drop r.2.2.1) (b.toList.drop r.2.2.2.1)/\r.2.2.1 + 1 < a.size/\r.2.2.2.1 < b.size/\0 < r.2.2.2.1/\k' = a.size - r.2.2.1 + (b.size - r.2.2.2.1)/\k' <= k) ?_ _ k _ _ ?_ ⟨rfl,rfl,i2,ha,hb,hp,uT,Nat.le_refl _⟩) ?_
  ·rintro _ k' ⟨r0,out,ia,ib,ac,bc⟩ bj ⟨rfl,rfl,i3,ha,hb,hp,ny,Tc⟩;dsimp only at i3 ha hb hp ny
   (lcg_src;lcg_sub;lcg_sub;lcg_sub;lcg_sub;lcg_sub;lcg_sub;lcg_sub;lcg_sub;lcg_sub)
   obtain ⟨y,hy,dy⟩:=i0 hb;obtain ⟨x,hx,dx⟩:=i0 (show ia < a.size by omega);have my:M y:=i3.memB (by rw [dy];exact List.mem_cons_self);have mx:M x:=i3.memA (by rw [dx];exact List.mem_cons_self);refine wpS_bind (aU hy (wpS_bind (aU hx (wpS_bind (tw L my mx (Iz g) ?_)))));lcg_src
   cases e:c y x with
   | true =>
    rw [if_pos rfl];refine wpS_bind (aU hy ?_);have i4:LI M c all (out.push y).toList (a.toList.drop ia) (b.toList.drop (ib + 1)):=by
     rw [Array.toList_push];rw [dy] at i3;refine LI.takeB (B1:=[y]) i3 fun z hz v hv=>?_
     rw [List.mem_singleton.mp hz];rw [dx] at hv i3;exact iF L i3.sa mx my (fun z hz=>i3.memA (List.mem_cons_of_mem _ hz)) e v hv
    by_cases e1:ib + 1 = b.size
    ·rw [if_pos (by rw [<- e1];exact beq_self_eq_true _)];exact wpS_pure ⟨rfl,.inl ⟨_,rfl,qT i4 e1⟩⟩
    ·rw [if_neg (by simpa using e1)]
     split
     ·exact wpS_pure ⟨rfl,.inr ⟨rfl,i4,by dsimp only;omega,by dsimp only;omega,by dsimp only;omega,by dsimp only;omega⟩⟩
     ·exact wpS_pure ⟨_,show a.size - ia + (b.size - (ib + 1)) < k' by omega,rfl,rfl,i4,by dsimp only;omega,by dsimp only;omega,by dsimp only;omega,rfl,by omega⟩
   | false =>
    rw [if_neg (by decide)];refine wpS_bind (aU hx ?_);have e':c x y = true:=L.tot _ _ my mx (fun z=>i3.ne (x:=x) (y:=y) (by rw [dx];exact List.mem_cons_self) (by rw [dy];exact List.mem_cons_self) z.symm) e
    have i4:LI M c all (out.push x).toList (a.toList.drop (ia + 1)) (b.toList.drop ib):=by
     rw [Array.toList_push];rw [dx] at i3;refine LI.takeA (A1:=[x]) i3 fun z hz v hv=>?_
     rw [List.mem_singleton.mp hz];rw [dy] at hv i3;exact iF L i3.sb my mx (fun z hz=>i3.memB (List.mem_cons_of_mem _ hz)) e' v hv
    by_cases e1:ia + 1 + 1 = a.size
    ·rw [if_pos (by rw [<- e1];exact beq_self_eq_true _)];exact wpS_pure ⟨rfl,.inl ⟨_,rfl,xP i4 e1⟩⟩
    ·rw [if_neg (by simpa using e1)]
     split
     ·exact wpS_pure ⟨rfl,.inr ⟨rfl,i4,by dsimp only;omega,by dsimp only;omega,by dsimp only;omega,by dsimp only;omega⟩⟩
     ·exact wpS_pure ⟨_,show a.size - (ia + 1) + (b.size - ib) < k' by omega,rfl,rfl,i4,by dsimp only;omega,by dsimp only;omega,by dsimp only;omega,rfl,by omega⟩
  ·rw [List.length_range'];omega
  ·rintro ⟨r0,out,ia,ib,ac,bc⟩ bj ⟨rfl,⟨o,rfl,p1,p2⟩ | ⟨rfl,i3,ha,hb,hp,ny⟩⟩
   ·exact wpS_pure ⟨o,g,rfl,rfl,p1,p2⟩
   dsimp only at i3 ha hb hp ny
   (lcg_src;lcg_sub;lcg_sub;lcg_sub;lcg_sub;lcg_sub;lcg_sub;lcg_sub;lcg_sub;lcg_sub;lcg_sub)
   refine wpS_bind (iO ?_);refine wpS_bind ?_;rw [range_list];refine wpS_mono (Q:=Nv M c all a b st k)
    (cW (Nu M c all a b st k) ?_ _ _ _ _ ?_ ⟨g,rfl,rfl,i3,ha,hb,hp,rfl,ny⟩) ?_
   ·rintro _ k' ⟨r0,out,ia,ib,mg,ac,bc⟩ bj ⟨g,rfl,rfl,i3,ha,hb,hp,ny,Tc⟩;dsimp only at i3 ha hb hp ny
    (lcg_src;lcg_sub;lcg_sub;lcg_sub;lcg_sub;lcg_sub;lcg_sub;lcg_sub;lcg_sub;lcg_sub;lcg_sub;lcg_sub)
    (extract_lets +onlyGivenNames -underBinder -merge -useContext J1;clear_value (TC:J1 = _))
    have j1:∀ D7,wpS (model prog w) A E s (J1 () D7) (CA (Nv M c all a b st k) fun r bj=>∃ uP,uP < k'/\Nu M c all a b st k uP r bj) (Gs st g):=fun D7=>by
     rw [TC];lcg_src;refine wpS_bind (rp ?_);obtain ⟨y,hy,dy⟩:=i0 hb;have my:M y:=i3.memB (by rw [dy];exact List.mem_cons_self);refine wpS_bind (aU hy ?_);have tA:(a.toList.drop ia).take (a.size - ia) = a.toList.drop ia:=List.take_of_length_le (by rw [List.length_drop,Array.length_toList];exact Nat.le_refl _);refine wpS_bind (lM L (by omega) (by rw [tA];exact i3.sa) (fun x hx=>i3.memA (by rw [tA] at hx;exact hx)) my (by omega) (Iz _) fun k1 wV f1 f2=>?_)
     rw [tA,List.drop_drop] at f2;have Jn:y ∈ b.toList.drop ib:=by rw [dy];exact List.mem_cons_self
     have i4:LI M c all (out.toList ++ (a.toList.drop ia).take k1) (a.toList.drop (ia + k1)) (b.toList.drop ib):=by
      rw [oS (k:=k1)] at i3;refine i3.takeA fun x hx v hv=>?_
      have mx:M x:=i3.memA (List.mem_append_left _ hx);have e':=L.tot _ _ my mx (fun z=>i3.ne (List.mem_append_left _ hx) Jn z.symm) (f1 x hx)
      rw [dy] at hv i3;exact iF L i3.sb my mx (fun z hz=>i3.memB (List.mem_cons_of_mem _ hz)) e' v hv
     (lcg_src;lcg_sub)
     (extract_lets +onlyGivenNames -underBinder -merge -useContext J2;clear_value (IG:J2 = _))
     have j2:∀ (ly:Array Keyed) (xS:Nat),ia <= xS->LI M c all ly.toList (a.toList.drop xS) (b.toList.drop ib)->(∀ x ∈ a.toList.drop xS,c y x = true)->xS + 1 < a.size->wpS (model prog w) A E s (J2 () ly xS) (CA (Nv M c all a b st k) fun r bj=>∃ uP,uP < k'/\Nu M c all a b st k uP r bj) (Gs st D7):=fun ly xS hle i5 f3 wX=>by
      rw [IG];lcg_src;refine wpS_bind (aU hy ?_)
      (lcg_src;lcg_sub;lcg_sub)
      have i6:LI M c all (ly.push y).toList (a.toList.drop xS) (b.toList.drop (ib + 1)):=by
       rw [Array.toList_push];rw [dy] at i5;refine LI.takeB (B1:=[y]) i5 fun z hz v hv=>?_
       rw [List.mem_singleton.mp hz];exact f3 v hv
      refine ax (fun e1=>wpS_pure ⟨_,rfl,.inl ⟨_,rfl,qT i6 (eq_of_beq e1)⟩⟩) fun e1=>?_
      have e1:ib + 1 ≠ b.size:=by simpa using e1
      obtain ⟨x,hx,dx⟩:=i0 (show xS < a.size by omega);have CM:x ∈ a.toList.drop xS:=by rw [dx];exact List.mem_cons_self
      have mx:M x:=i6.memA CM;refine wpS_bind (aU hx ?_);have tB:(b.toList.drop (ib + 1)).take (b.size - (ib + 1)) = b.toList.drop (ib + 1):=List.take_of_length_le (by rw [List.length_drop,Array.length_toList];exact Nat.le_refl _);refine wpS_bind (oK L (by omega) (by rw [tB];exact i6.sb) (fun x hx=>i6.memB (by rw [tB] at hx;exact hx)) mx (by omega) (Iz _) fun k2 K8 f4 f5=>?_)
      rw [tB,List.drop_drop] at f5;have i7:LI M c all ((ly.push y).toList ++ (b.toList.drop (ib + 1)).take k2) (a.toList.drop xS) (b.toList.drop (ib + 1 + k2)):=by
       rw [oS (i:=ib + 1) (k:=k2)] at i6;refine i6.takeB fun z hz v hv=>?_
       have mz:M z:=i6.memB (List.mem_append_left _ hz);rw [dx] at hv i6;exact iF L i6.sa mx mz (fun z hz=>i6.memA (List.mem_cons_of_mem _ hz)) (f4 z hz) v hv
      (lcg_src;lcg_sub)
      (extract_lets +onlyGivenNames -underBinder -merge -useContext J3;clear_value (Lp:J3 = _))
      have j3:∀ (rM:Array Keyed) (Fv:Nat),ib + 1 <= Fv->LI M c all rM.toList (a.toList.drop xS) (b.toList.drop Fv)->(∀ z ∈ b.toList.drop Fv,c z x = false)->Fv < b.size->wpS (model prog w) A E s (J3 () rM Fv) (CA (Nv M c all a b st k) fun r bj=>∃ uP,uP < k'/\Nu M c all a b st k uP r bj) (Gs st D7):=fun rM Fv Tb i8 f6 hb3=>by
       rw [Lp];lcg_src;refine wpS_bind (aU hx ?_)
       (lcg_src;lcg_sub;lcg_sub)
       have i9:LI M c all (rM.push x).toList (a.toList.drop (xS + 1)) (b.toList.drop Fv):=by
        rw [Array.toList_push];rw [dx] at i8;refine LI.takeA (A1:=[x]) i8 fun z hz v hv=>?_
        rw [List.mem_singleton.mp hz];exact L.tot _ _ (i8.memB hv) mx (fun z=>i8.ne (x:=x) List.mem_cons_self hv z.symm) (f6 v hv)
       refine ax (fun e1=>wpS_pure ⟨_,rfl,.inl ⟨_,rfl,xP i9 (eq_of_beq e1)⟩⟩) fun e1=>?_
       have e1:xS + 1 + 1 ≠ a.size:=by simpa using e1
       refine ax (fun _=>wpS_pure ⟨_,rfl,.inr ⟨rfl,i9,by dsimp only;omega,by dsimp only;omega,by dsimp only;omega,by dsimp only;omega⟩⟩) fun _=>?_
       exact wpS_pure ⟨_,show a.size - (xS + 1) + (b.size - Fv) < k' by omega,_,rfl,rfl,i9,by dsimp only;omega,by dsimp only;omega,by dsimp only;omega,rfl,by omega⟩
      refine ax (fun g1=>?_) fun g1=>?_
      ·(lcg_src;lcg_sub;lcg_sub)
       have e0:(ly.push y ++ b.extract (ib + 1) (ib + 1 + k2)).toList = (ly.push y).toList ++ (b.toList.drop (ib + 1)).take k2:=by rw [Array.toList_append,oO]
       rw [<- e0] at i7;refine ax (fun e1=>wpS_pure ⟨_,rfl,.inl ⟨_,rfl,qT i7 (eq_of_beq e1)⟩⟩) fun e1=>?_
       have e1:ib + 1 + k2 ≠ b.size:=by simpa using e1
       exact j3 _ _ (by omega) i7 f5 (by omega)
      ·obtain rfl:k2 = 0:=by omega
       exact j3 _ _ (Nat.le_refl _) i6 f5 (by omega)
     refine ax (fun g1=>?_) fun g1=>?_
     ·(lcg_src;lcg_sub;lcg_sub)
      have e0:(out ++ a.extract ia (ia + k1)).toList = out.toList ++ (a.toList.drop ia).take k1:=by rw [Array.toList_append,oO]
      rw [<- e0] at i4;refine ax (fun e1=>wpS_pure ⟨_,rfl,.inl ⟨_,rfl,xP i4 (eq_of_beq e1)⟩⟩) fun e1=>?_
      have e1:ia + k1 + 1 ≠ a.size:=by simpa using e1
      refine ax (fun e2=>wpS_pure ⟨_,rfl,.inl ⟨_,rfl,qU i4 (eq_of_beq e2)⟩⟩) fun e2=>?_
      have e2:ia + k1 ≠ a.size:=by simpa using e2
      exact j2 _ _ (by omega) i4 f2 (by omega)
     ·obtain rfl:k1 = 0:=by omega
      exact j2 _ _ (Nat.le_refl _) i3 f2 ha
    exact ax (fun _=>j1 _) fun _=>j1 _
   ·rw [List.length_range'];dsimp only;omega
   ·rintro ⟨r0,out,ia,ib,mg,ac,bc⟩ bj ⟨g,rfl,⟨o,rfl,p1,p2⟩ | ⟨rfl,i3,ha,hb,hp,ny⟩⟩
    ·exact wpS_pure ⟨o,g,rfl,rfl,p1,p2⟩
    ·dsimp only at i3 ha hb hp ny
     (lcg_src;lcg_sub;lcg_sub;lcg_sub;lcg_sub;lcg_sub;lcg_sub;lcg_sub;lcg_sub;lcg_sub;lcg_sub)
     refine wpS_bind (rp ?_);exact wpS_pure ⟨_,ny,_,rfl,rfl,i3,ha,hb,hp,rfl⟩
 ·rintro ⟨r0,out,ia,ib,mg⟩ bj ⟨o,g,rfl,rfl,p1,p2⟩;exact wpS_pure (q o g p1 p2)
end
end TS
namespace TS
variable {n:Nat}
local macro_rules | `(tactic| lcg_src) => `(tactic| try dsimp (zeta := false) (zetaUnused := false) only)
local macro_rules | `(tactic| lcg_sub) => `(tactic| (extract_lets +onlyGivenNames -underBinder -merge -useContext zz; subst zz; try dsimp (zeta := false) (zetaUnused := false) only))
open PySem PySem.W PyProof.Rows
local macro_rules | `(term| type_of% $n:ident) => return Lean.mkIdent (Lean.mkPrivateNameCore `PySem.Builtin.List.W1All (`PySem.Builtin ++ n.getId))
local macro_rules | `(tactic| delta $n:ident) => if Lean.isPrivateName n.getId then Lean.Macro.throwUnsupported else `(tactic| delta $(Lean.mkIdent (Lean.mkPrivateNameCore `PySem.Builtin.List.W1All (`PySem.Builtin ++ n.getId))):ident)
section
variable {prog:Program} {w:World} {A:Around} {s:Shared} {E:Value->Shared->Prop} {κ:SortKind} {M:Keyed->Prop} {c:Keyed->Keyed->Bool}
variable {a b:Array Keyed} {all:List Keyed}
theorem kr:(a.extract 0 n).toList = a.toList.take n:=by
 rw [Array.toList_extract,List.extract_eq_take_drop,List.drop_zero];rfl
theorem x5 {i:Nat}:(a.extract i n).toList = (a.toList.take n).drop i:=by
 rw [Array.toList_extract,List.extract_eq_take_drop,List.drop_take]
theorem iR (h0:0 < n) (h:n <= a.size):∃ x,a[n - 1]? = some x/\a.toList.take n = a.toList.take (n - 1) ++ [x]:=by
 have h1:n - 1 < a.toList.length:=by rw [Array.length_toList];omega
 refine ⟨a.toList[n - 1],by rw [<- Array.getElem?_toList,List.getElem?_eq_getElem h1],?_⟩;have:=List.take_append_getElem (l:=a.toList) (i:=n - 1) h1;rw [show n - 1 + 1 = n by omega] at this;exact this.symm
theorem nG {i:Nat} (h:i <= n):a.toList.take n = a.toList.take i ++ (a.toList.take n).drop i:=by
 have:=(List.take_append_drop i (a.toList.take n)).symm;rw [List.take_take,Nat.min_eq_left h] at this;exact this
theorem iD (L:sY prog w A s κ M c) {x y:Keyed} {l:List Keyed} (h:fT c (l ++ [x])) (mx:M x) (my:M y) (ml:∀ z ∈ l,M z) (e:c x y = true):∀ z ∈ l ++ [x],c z y = true:=fun z hz=>by
 rcases List.mem_append.mp hz with hz | hz
 ·exact L.trans _ _ _ (ml z hz) mx my ((List.pairwise_append.mp h).2.2 z hz x List.mem_cons_self) e
 ·rw [List.mem_singleton.mp hz];exact e
abbrev Ny (M:Keyed->Prop) (c:Keyed->Keyed->Bool) (all:List Keyed) (a b:Array Keyed) (st:SortSt) (k:Nat) (r:Option (Array Keyed) × Nat × Nat × Array Keyed × Nat × Nat × Nat) (bj:SortSt):Prop :=
 ∃ g,bj = Gs st g/\((∃ out,r.1 = some out/\out.toList.Perm all/\fT c out.toList) \/ (r.1 = none/\HI M c all (a.toList.take r.2.1) (b.toList.take r.2.2.1) r.2.2.2.1.toList.reverse/\0 < r.2.1/\r.2.1 < a.size/\1 < r.2.2.1/\r.2.2.1 <= b.size/\r.2.1 + r.2.2.1 < k))
abbrev Nx (M:Keyed->Prop) (c:Keyed->Keyed->Bool) (all:List Keyed) (a b:Array Keyed) (st:SortSt) (k k':Nat) (r:Option (Array Keyed) × Nat × Nat × Array Keyed × Nat × Nat × Nat) (bj:SortSt):Prop :=
 ∃ g,bj = Gs st g/\r.1 = none/\HI M c all (a.toList.take r.2.1) (b.toList.take r.2.2.1) r.2.2.2.1.toList.reverse/\0 < r.2.1/\r.2.1 < a.size/\1 < r.2.2.1/\r.2.2.1 <= b.size/\k' = r.2.1 + r.2.2.1/\k' < k
theorem JE (L : sY prog w A s κ M c) {st : SortSt} {Q : Array Keyed -> SortSt -> Prop} (h : HI M c all a.toList b.toList []) (na : 0 < a.size) (nb : 0 < b.size)
    (h0:∀ x ∈ b.toList.take 1,∀ y ∈ a.toList,c x y = true) (hl:∀ x ∈ b.toList,∀ y,a[a.size - 1]? = some y->c x y = true) (hk:PyProof.Rows.kindOf st = κ)
    (q:∀ r g,r.toList.Perm all->fT c r.toList->Q r (Gs st g)):wpS (model prog w) A E s (JG a b) Q st:=by
 have eD:∀ (out:Array Keyed) na nb,(a.extract 0 na ++ b.extract 0 nb ++ out.reverse).toList = a.toList.take na ++ b.toList.take nb ++ out.toList.reverse:=fun out na nb=>by
  rw [Array.toList_append,Array.toList_append,kr,kr,Array.toList_reverse]
 have eL:∀ (out:Array Keyed) na nb,(b.extract 0 nb ++ a.extract 0 na ++ out.reverse).toList = b.toList.take nb ++ a.toList.take na ++ out.toList.reverse:=fun out na nb=>by
  rw [Array.toList_append,Array.toList_append,kr,kr,Array.toList_reverse]
 have sL:∀ {out:Array Keyed} {na nb:Nat},HI M c all (a.toList.take na) (b.toList.take nb) out.toList.reverse->nb = 1->(b.extract 0 nb ++ a.extract 0 na ++ out.reverse).toList.Perm all/\fT c (b.extract 0 nb ++ a.extract 0 na ++ out.reverse).toList:=fun {out na nb} h e=>by
  rw [eL];refine h.finL fun x hx y hy=>h0 x ?_ y (List.mem_of_mem_take hy)
  rw [e] at hx;exact hx
 have qU:∀ {out:Array Keyed} {na nb:Nat},HI M c all (a.toList.take na) (b.toList.take nb) out.toList.reverse->na = 0->(a.extract 0 na ++ b.extract 0 nb ++ out.reverse).toList.Perm all/\fT c (a.extract 0 na ++ b.extract 0 nb ++ out.reverse).toList:=fun {out na nb} h e=>by
  rw [eD];exact h.finA (by rw [e,List.take_zero])
 have qT:∀ {out:Array Keyed} {na nb:Nat},HI M c all (a.toList.take na) (b.toList.take nb) out.toList.reverse->nb = 0->(a.extract 0 na ++ b.extract 0 nb ++ out.reverse).toList.Perm all/\fT c (a.extract 0 na ++ b.extract 0 nb ++ out.reverse).toList:=fun {out na nb} h e=>by
  rw [eD];exact h.finB (by rw [e,List.take_zero])
 have x6:∀ (out:Array Keyed) (x:Keyed),(out.push x).toList.reverse = [x] ++ out.toList.reverse:=fun out x=>by
  rw [Array.toList_push,List.reverse_append];rfl
 have LB:∀ (out d:Array Keyed) i n,(out ++ (d.extract i n).reverse).toList.reverse = (d.toList.take n).drop i ++ out.toList.reverse:=fun out d i n=>by
  rw [Array.toList_append,Array.toList_reverse,List.reverse_append,List.reverse_reverse,x5]
 have Iz:∀ g,PyProof.Rows.kindOf (Gs st g) = κ:=fun _=>hk
 have Lv:a.toList.take a.size = a.toList:=List.take_of_length_le (by rw [Array.length_toList];exact Nat.le_refl _);have Lu:b.toList.take b.size = b.toList:=List.take_of_length_le (by rw [Array.length_toList];exact Nat.le_refl _);unfold JG
 delta mergeHi
 lcg_src;refine wpS_bind (iO ?_)
 (lcg_src;lcg_sub;lcg_sub;lcg_sub;lcg_sub;lcg_sub)
 obtain ⟨a0,X7,da0⟩:=iR (a:=a) na (Nat.le_refl _);refine wpS_bind (aU X7 ?_)
 (lcg_src;lcg_sub)
 have i1:HI M c all (a.toList.take (a.size - 1)) (b.toList.take b.size) (#[a0]:Array Keyed).toList.reverse:=by
  have:=HI.takeA (out:=[]) (A1:=a.toList.take (a.size - 1)) (A2:=[a0]) (B:=b.toList) (by rw [<- da0,Lv];exact h) fun x hx y hy=>by
   rw [List.mem_singleton.mp hy];exact hl x hx a0 X7
  rw [Lu];exact this
 refine ax (fun e1=>?_) fun e1=>?_
 ·have:=qU i1 (eq_of_beq e1);exact wpS_pure (q _ (gallopOf st) this.1 this.2)
 have e1:a.size - 1 ≠ 0:=by simpa using e1
 refine ax (fun e2=>?_) fun e2=>?_
 ·have:=sL i1 (eq_of_beq e2);exact wpS_pure (q _ (gallopOf st) this.1 this.2)
 have e2:b.size ≠ 1:=by simpa using e2
 refine wpS_bind (wpS_get ?_)
 (lcg_src;lcg_sub)
 refine wpS_bind ?_;rw [range_list];refine wpS_mono (Q:=fun (r:Option (Array Keyed) × Nat × Nat × Array Keyed × Nat) bj=>∃ out g,r.1 = some out/\bj = Gs st g/\out.toList.Perm all/\fT c out.toList)
  (cW (fun k (r:Option (Array Keyed) × Nat × Nat × Array Keyed × Nat) bj=>∃ g,bj = Gs st g/\r.1 = none/\HI M c all (a.toList.take r.2.1) (b.toList.take r.2.2.1) r.2.2.2.1.toList.reverse/\0 < r.2.1/\r.2.1 < a.size/\1 < r.2.2.1/\r.2.2.1 <= b.size/\k = r.2.1 + r.2.2.1) ?_ _ (a.size - 1 + b.size) _ _ (by rw [List.length_range'];omega) ⟨gallopOf st,rfl,rfl,i1,by dsimp only;omega,by dsimp only;omega,by dsimp only;omega,by dsimp only;omega,rfl⟩) ?_
 ·rintro _ k ⟨r0,na,nb,out,mg⟩ bj ⟨g,rfl,rfl,i2,vN,wX,zG,xZ,uT⟩;dsimp only at i2 vN wX zG xZ uT
  (lcg_src;lcg_sub;lcg_sub;lcg_sub;lcg_sub;lcg_sub;lcg_sub;lcg_sub;lcg_sub;lcg_sub)
  refine wpS_bind ?_;rw [range_list];refine wpS_mono (Q:=fun (r:Option (Array Keyed) × Nat × Nat × Array Keyed × Nat × Nat) bj=>bj = Gs st g/\((∃ out,r.1 = some out/\out.toList.Perm all/\fT c out.toList) \/ (r.1 = none/\HI M c all (a.toList.take r.2.1) (b.toList.take r.2.2.1) r.2.2.2.1.toList.reverse/\0 < r.2.1/\r.2.1 < a.size/\1 < r.2.2.1/\r.2.2.1 <= b.size/\r.2.1 + r.2.2.1 < k)))
   (cW (fun k' (r:Option (Array Keyed) × Nat × Nat × Array Keyed × Nat × Nat) bj=>bj = Gs st g/\r.1 = none/\HI M c all (a.toList.take r.2.1) (b.toList.take r.2.2.1) r.2.2.2.1.toList.reverse/\0 < r.2.1/\r.2.1 < a.size/\1 < r.2.2.1/\r.2.2.1 <= b.size/\k' = r.2.1 + r.2.2.1/\k' <= k) ?_ _ k _ _ ?_ ⟨rfl,rfl,i2,vN,wX,zG,xZ,uT,Nat.le_refl _⟩) ?_
  ·rintro _ k' ⟨r0,na,nb,out,ac,bc⟩ bj ⟨rfl,rfl,i3,vN,wX,zG,xZ,ny,Tc⟩;dsimp only at i3 vN wX zG xZ ny
   (lcg_src;lcg_sub;lcg_sub;lcg_sub;lcg_sub;lcg_sub;lcg_sub;lcg_sub;lcg_sub;lcg_sub)
   obtain ⟨y,hy,dy⟩:=iR (a:=b) (n:=nb) (by omega) xZ;obtain ⟨x,hx,dx⟩:=iR (a:=a) (n:=na) vN (by omega);have Jn:y ∈ b.toList.take nb:=by rw [dy];simp
   have CM:x ∈ a.toList.take na:=by rw [dx];simp
   have my:M y:=i3.memB Jn;have mx:M x:=i3.memA CM;refine wpS_bind (aU hy (wpS_bind (aU hx (wpS_bind (tw L my mx (Iz g) ?_)))));lcg_src
   cases e:c y x with
   | true =>
    refine ax (fun _=>?_) fun z=>absurd rfl z
    (lcg_src;lcg_sub)
    refine wpS_bind (aU hx ?_)
    (lcg_src;lcg_sub;lcg_sub;lcg_sub)
    have i4:HI M c all (a.toList.take (na - 1)) (b.toList.take nb) (out.push x).toList.reverse:=by
     rw [x6];rw [dx] at i3;refine HI.takeA (A2:=[x]) i3 fun z hz v hv=>?_
     rw [List.mem_singleton.mp hv];rw [dy] at hz i3;exact iD L i3.sb my mx (fun z hz=>i3.memB (List.mem_append_left _ hz)) e z hz
    refine ax (fun e1=>wpS_pure ⟨rfl,.inl ⟨_,rfl,qU i4 (eq_of_beq e1)⟩⟩) fun e1=>?_
    have e1:na - 1 ≠ 0:=by simpa using e1
    refine ax (fun _=>wpS_pure ⟨rfl,.inr ⟨rfl,i4,by dsimp only;omega,by dsimp only;omega,by dsimp only;omega,by dsimp only;omega,by dsimp only;omega⟩⟩) fun _=>?_
    exact wpS_pure ⟨_,show na - 1 + nb < k' by omega,rfl,rfl,i4,by dsimp only;omega,by dsimp only;omega,by dsimp only;omega,by dsimp only;omega,rfl,by omega⟩
   | false =>
    refine ax (fun z=>nomatch z) fun _=>?_
    (lcg_src;lcg_sub)
    refine wpS_bind (aU hy ?_)
    (lcg_src;lcg_sub;lcg_sub;lcg_sub)
    have e':c x y = true:=L.tot _ _ my mx (fun z=>i3.ne CM Jn z.symm) e
    have i4:HI M c all (a.toList.take na) (b.toList.take (nb - 1)) (out.push y).toList.reverse:=by
     rw [x6];rw [dy] at i3;refine HI.takeB (B2:=[y]) i3 fun z hz v hv=>?_
     rw [List.mem_singleton.mp hv];rw [dx] at hz i3;exact iD L i3.sa mx my (fun z hz=>i3.memA (List.mem_append_left _ hz)) e' z hz
    refine ax (fun e1=>wpS_pure ⟨rfl,.inl ⟨_,rfl,sL i4 (eq_of_beq e1)⟩⟩) fun e1=>?_
    have e1:nb - 1 ≠ 1:=by simpa using e1
    refine ax (fun _=>wpS_pure ⟨rfl,.inr ⟨rfl,i4,by dsimp only;omega,by dsimp only;omega,by dsimp only;omega,by dsimp only;omega,by dsimp only;omega⟩⟩) fun _=>?_
    exact wpS_pure ⟨_,show na + (nb - 1) < k' by omega,rfl,rfl,i4,by dsimp only;omega,by dsimp only;omega,by dsimp only;omega,by dsimp only;omega,rfl,by omega⟩
  ·rw [List.length_range'];omega
  ·rintro ⟨r0,na,nb,out,ac,bc⟩ bj ⟨rfl,⟨o,rfl,p1,p2⟩ | ⟨rfl,i3,vN,wX,zG,xZ,ny⟩⟩
   ·exact wpS_pure ⟨o,g,rfl,rfl,p1,p2⟩
   dsimp only at i3 vN wX zG xZ ny
   (lcg_src;lcg_sub;lcg_sub;lcg_sub;lcg_sub;lcg_sub;lcg_sub;lcg_sub;lcg_sub;lcg_sub;lcg_sub)
   refine wpS_bind (iO ?_)
   (lcg_src;lcg_sub)
   refine wpS_bind ?_;rw [range_list];refine wpS_mono (Q:=Ny M c all a b st k) (cW (Nx M c all a b st k) ?_ _ _ _ _ ?_ ⟨g,rfl,rfl,i3,vN,wX,zG,xZ,rfl,ny⟩) ?_
   ·rintro _ k' ⟨r0,na,nb,out,mg,ac,bc⟩ bj ⟨g,rfl,rfl,i3,vN,wX,zG,xZ,ny,Tc⟩;dsimp only at i3 vN wX zG xZ ny
    (lcg_src;lcg_sub;lcg_sub;lcg_sub;lcg_sub;lcg_sub;lcg_sub;lcg_sub;lcg_sub;lcg_sub;lcg_sub;lcg_sub)
    (extract_lets +onlyGivenNames -underBinder -merge -useContext J1;clear_value (TC:J1 = _))
    have j1:∀ D7,wpS (model prog w) A E s (J1 () D7) (CA (Ny M c all a b st k) fun r bj=>∃ uP,uP < k'/\Nx M c all a b st k uP r bj) (Gs st g):=fun D7=>by
     rw [TC];lcg_src;refine wpS_bind (rp ?_);obtain ⟨y,hy,dy⟩:=iR (a:=b) (n:=nb) (by omega) xZ;have Jn:y ∈ b.toList.take nb:=by rw [dy];simp
     have my:M y:=i3.memB Jn;refine wpS_bind (aU hy ?_);refine wpS_bind (lM L (by omega) (by rw [List.drop_zero];exact i3.sa) (fun x hx=>i3.memA (by rw [List.drop_zero] at hx;exact hx)) my (by omega) (Iz _) fun k1 wV f1 f2=>?_)
     rw [List.drop_zero] at f1 f2
     (lcg_src;lcg_sub;lcg_sub)
     have i4:HI M c all (a.toList.take k1) (b.toList.take nb) ((a.toList.take na).drop k1 ++ out.toList.reverse):=by
      rw [nG wV] at i3;refine i3.takeA fun z hz v hv=>?_
      have mv:M v:=i3.memA (List.mem_append_right _ hv);rw [dy] at hz i3;exact iD L i3.sb my mv (fun z hz=>i3.memB (List.mem_append_left _ hz)) (f2 v hv) z hz
     (extract_lets +onlyGivenNames -underBinder -merge -useContext J2;clear_value (IG:J2 = _))
     have j2:∀ (xM:Nat) (ly:Array Keyed),xM <= na->HI M c all (a.toList.take xM) (b.toList.take nb) ly.toList.reverse->(∀ x ∈ a.toList.take xM,c y x = false)->0 < xM->wpS (model prog w) A E s (J2 () xM ly) (CA (Ny M c all a b st k) fun r bj=>∃ uP,uP < k'/\Nx M c all a b st k uP r bj) (Gs st D7):=fun xM ly hle i5 f3 Iw=>by
      rw [IG]
      (lcg_src;lcg_sub)
      refine wpS_bind (aU hy ?_)
      (lcg_src;lcg_sub)
      have i6:HI M c all (a.toList.take xM) (b.toList.take (nb - 1)) (ly.push y).toList.reverse:=by
       rw [x6];rw [dy] at i5;refine HI.takeB (B2:=[y]) i5 fun z hz v hv=>?_
       rw [List.mem_singleton.mp hv];exact L.tot _ _ my (i5.memA hz) (fun e=>i5.ne hz (List.mem_append_right _ List.mem_cons_self) e.symm) (f3 z hz)
      refine ax (fun e1=>wpS_pure ⟨_,rfl,.inl ⟨_,rfl,sL i6 (eq_of_beq e1)⟩⟩) fun e1=>?_
      have e1:nb - 1 ≠ 1:=by simpa using e1
      obtain ⟨x,hx,dx⟩:=iR (a:=a) (n:=xM) Iw (by omega);have CM:x ∈ a.toList.take xM:=by rw [dx];simp
      have mx:M x:=i6.memA CM;refine wpS_bind (aU hx ?_);refine wpS_bind (oK L (by omega) (by rw [List.drop_zero];exact i6.sb) (fun x hx=>i6.memB (by rw [List.drop_zero] at hx;exact hx)) mx (by omega) (Iz _) fun k2 K8 f4 f5=>?_)
      rw [List.drop_zero] at f4 f5
      (lcg_src;lcg_sub;lcg_sub)
      have i7:HI M c all (a.toList.take xM) (b.toList.take k2) ((b.toList.take (nb - 1)).drop k2 ++ (ly.push y).toList.reverse):=by
       rw [nG K8] at i6;refine i6.takeB fun z hz v hv=>?_
       have mv:M v:=i6.memB (List.mem_append_right _ hv);have e':=L.tot _ _ mv mx (fun e=>i6.ne CM (List.mem_append_right _ hv) e.symm) (f5 v hv)
       rw [dx] at hz i6;exact iD L i6.sa mx mv (fun z hz=>i6.memA (List.mem_append_left _ hz)) e' z hz
      (extract_lets +onlyGivenNames -underBinder -merge -useContext J3;clear_value (Lp:J3 = _))
      have j3:∀ (Fq:Nat) (rM:Array Keyed),Fq <= nb - 1->HI M c all (a.toList.take xM) (b.toList.take Fq) rM.toList.reverse->(∀ z ∈ b.toList.take Fq,c z x = true)->1 < Fq->wpS (model prog w) A E s (J3 () Fq rM) (CA (Ny M c all a b st k) fun r bj=>∃ uP,uP < k'/\Nx M c all a b st k uP r bj) (Gs st D7):=fun Fq rM Tb i8 f6 hb3=>by
       rw [Lp]
       (lcg_src;lcg_sub)
       refine wpS_bind (aU hx ?_)
       (lcg_src;lcg_sub)
       have i9:HI M c all (a.toList.take (xM - 1)) (b.toList.take Fq) (rM.push x).toList.reverse:=by
        rw [x6];rw [dx] at i8;refine HI.takeA (A2:=[x]) i8 fun z hz v hv=>?_
        rw [List.mem_singleton.mp hv];exact f6 z hz
       refine ax (fun e1=>wpS_pure ⟨_,rfl,.inl ⟨_,rfl,qU i9 (eq_of_beq e1)⟩⟩) fun e1=>?_
       have e1:xM - 1 ≠ 0:=by simpa using e1
       refine ax (fun _=>wpS_pure ⟨_,rfl,.inr ⟨rfl,i9,by dsimp only;omega,by dsimp only;omega,by dsimp only;omega,by dsimp only;omega,by dsimp only;omega⟩⟩) fun _=>?_
       exact wpS_pure ⟨_,show xM - 1 + Fq < k' by omega,_,rfl,rfl,i9,by dsimp only;omega,by dsimp only;omega,by dsimp only;omega,by dsimp only;omega,rfl,by omega⟩
      refine ax (fun g1=>?_) fun g1=>?_
      ·(lcg_src;lcg_sub;lcg_sub)
       rw [<- LB] at i7;refine ax (fun e1=>wpS_pure ⟨_,rfl,.inl ⟨_,rfl,sL i7 (eq_of_beq e1)⟩⟩) fun e1=>?_
       have e1:k2 ≠ 1:=by simpa using e1
       refine ax (fun e2=>wpS_pure ⟨_,rfl,.inl ⟨_,rfl,qT i7 (eq_of_beq e2)⟩⟩) fun e2=>?_
       have e2:k2 ≠ 0:=by simpa using e2
       exact j3 _ _ (by omega) i7 f4 (by omega)
      ·obtain rfl:k2 = nb - 1:=by omega
       exact j3 _ _ (Nat.le_refl _) i6 f4 (by omega)
     refine ax (fun g1=>?_) fun g1=>?_
     ·(lcg_src;lcg_sub;lcg_sub)
      rw [<- LB] at i4;refine ax (fun e1=>wpS_pure ⟨_,rfl,.inl ⟨_,rfl,qU i4 (eq_of_beq e1)⟩⟩) fun e1=>?_
      have e1:k1 ≠ 0:=by simpa using e1
      exact j2 _ _ (by omega) i4 f1 (by omega)
     ·obtain rfl:k1 = na:=by omega
      exact j2 _ _ (Nat.le_refl _) i3 f1 vN
    exact ax (fun _=>j1 _) fun _=>j1 _
   ·rw [List.length_range'];dsimp only;omega
   ·rintro ⟨r0,na,nb,out,mg,ac,bc⟩ bj ⟨g,rfl,⟨o,rfl,p1,p2⟩ | ⟨rfl,i3,vN,wX,zG,xZ,ny⟩⟩
    ·exact wpS_pure ⟨o,g,rfl,rfl,p1,p2⟩
    ·dsimp only at i3 vN wX zG xZ ny
     (lcg_src;lcg_sub;lcg_sub;lcg_sub;lcg_sub;lcg_sub;lcg_sub;lcg_sub;lcg_sub;lcg_sub;lcg_sub)
     refine wpS_bind (rp ?_);exact wpS_pure ⟨_,ny,_,rfl,rfl,i3,vN,wX,zG,xZ,rfl⟩
 ·rintro ⟨r0,na,nb,out,mg⟩ bj ⟨o,g,rfl,rfl,p1,p2⟩;exact wpS_pure (q o g p1 p2)
end
end TS
namespace TS
local macro_rules | `(tactic| lcg_src) => `(tactic| try dsimp (zeta := false) (zetaUnused := false) only)
local macro_rules | `(tactic| lcg_sub) => `(tactic| (extract_lets +onlyGivenNames -underBinder -merge -useContext zz; subst zz; try dsimp (zeta := false) (zetaUnused := false) only))
open PySem PySem.W PyProof.Rows
local macro_rules | `(term| type_of% $n:ident) => return Lean.mkIdent (Lean.mkPrivateNameCore `PySem.Builtin.List.W1All (`PySem.Builtin ++ n.getId))
local macro_rules | `(tactic| delta $n:ident) => if Lean.isPrivateName n.getId then Lean.Macro.throwUnsupported else `(tactic| delta $(Lean.mkIdent (Lean.mkPrivateNameCore `PySem.Builtin.List.W1All (`PySem.Builtin ++ n.getId))):ident)
section
variable {prog:Program} {w:World} {A:Around} {s:Shared} {E:Value->Shared->Prop} {κ:SortKind} {M:Keyed->Prop} {c:Keyed->Keyed->Bool}
abbrev Ms (κ:SortKind) (arr:Array Keyed) (p:Array (Nat × Nat × Nat)) (g:Nat):SortSt:=SortSt.mk' κ arr p g none
theorem FR {st bj:SortSt} {Q:PUnit->SortSt->Prop} (q:Q ⟨⟩ bj):wpS (model prog w) A E s (set bj) Q st:=by
 have:(set bj:StateT SortSt Sem PUnit) = modify fun _=>bj:=rfl
 rw [this];exact wpS_modify q
theorem xI {sa : Nat} : ∀ (l : List Keyed) (n : Nat) (arr : Array Keyed), sa + n + l.length <= arr.size ->
    ((l.zipIdx n).foldl (fun (a:Array Keyed) (x:Keyed × Nat)=>match x with | (p,j)=>a.setIfInBounds (sa + j) p) arr).toList = arr.toList.take (sa + n) ++ l ++ arr.toList.drop (sa + n + l.length)
 | [],n,arr,h=>by
  rw [List.zipIdx_nil,List.foldl_nil,List.append_nil,List.length_nil,Nat.add_zero,List.take_append_drop]
 | x :: l,n,arr,h=>by
  rw [List.length_cons] at h;rw [List.zipIdx_cons,List.foldl_cons];dsimp only;rw [xI l (n + 1) _ (by rw [Array.size_setIfInBounds];omega),Array.toList_setIfInBounds];have hl:sa + n < arr.toList.length:=by rw [Array.length_toList];omega
  rw [show sa + (n + 1) = sa + n + 1 by omega,List.take_succ_eq_append_getElem (by rw [List.length_set];exact hl),List.getElem_set_self,List.take_set_of_le (Nat.le_refl _),List.length_cons,List.drop_set_of_lt (by omega),show sa + n + 1 + l.length = sa + n + (l.length + 1) by omega,List.append_assoc,List.append_assoc,List.append_assoc]
  rfl
theorem vV (L : sY prog w A s κ M c) {arr : Array Keyed} {pend : Array (Nat × Nat × Nat)} {g i sa na p1 sb nb p2 : Nat} {Q : Bool -> SortSt -> Prop} (h1 : pend[i]? = some (sa, na, p1)) (h2 : pend[i + 1]? = some (sb, nb, p2)) (M8 : sb = sa + na)
    (hsz:sb + nb <= arr.size) (na0:0 < na) (nb0:0 < nb) (sA:fT c ((arr.toList.drop sa).take na)) (sB:fT c ((arr.toList.drop sb).take nb)) (mm:∀ x ∈ arr.toList,M x) (nd:arr.toList.Nodup)
    (q:∀ bV g' m,bV.toList = arr.toList.take sa ++ m ++ arr.toList.drop (sb + nb)->m.Perm ((arr.toList.drop sa).take (na + nb))->fT c m->Q true (Ms κ bV ((pend.setIfInBounds i (sa,na + nb,p1)).eraseIdxIfInBounds (i + 1)) g')) :
    wpS (model prog w) A E s (mergeAt' i) Q (Ms κ arr pend g):=by
 have KA:((arr.toList.drop sa).take na).length = na:=by rw [List.length_take,List.length_drop,Array.length_toList];omega
 have Kz:((arr.toList.drop sb).take nb).length = nb:=by rw [List.length_take,List.length_drop,Array.length_toList];omega
 have Yq:(arr.toList.drop sa).take (na + nb) = (arr.toList.drop sa).take na ++ (arr.toList.drop sb).take nb:=by rw [List.take_add,List.drop_drop,M8]
 have Ex:arr.toList = arr.toList.take sa ++ ((arr.toList.drop sa).take na ++ (arr.toList.drop sb).take nb) ++ arr.toList.drop (sb + nb):=by
  rw [<- Yq,M8,Nat.add_assoc,<- List.drop_drop,List.append_assoc,List.take_append_drop,List.take_append_drop]
 have mA:∀ x ∈ (arr.toList.drop sa).take na,M x:=fun x hx=>mm x (List.mem_of_mem_drop (List.mem_of_mem_take hx))
 have mB:∀ x ∈ (arr.toList.drop sb).take nb,M x:=fun x hx=>mm x (List.mem_of_mem_drop (List.mem_of_mem_take hx))
 have Kx:((arr.toList.drop sa).take na ++ (arr.toList.drop sb).take nb).Nodup:=by
  rw [Ex] at nd;exact (List.nodup_append.mp (List.nodup_append.mp nd).1).2.1
 have Kw:∀ x ∈ (arr.toList.drop sa).take na,∀ y ∈ (arr.toList.drop sb).take nb,x ≠ y:=fun x hx y hy=>(List.nodup_append.mp Kx).2.2 x hx y hy
 have q':∀ bV g' m,bV.toList = arr.toList.take sa ++ m ++ arr.toList.drop (sb + nb)->m.Perm ((arr.toList.drop sa).take na ++ (arr.toList.drop sb).take nb)->fT c m->Q true (Ms κ bV ((pend.setIfInBounds i (sa,na + nb,p1)).eraseIdxIfInBounds (i + 1)) g'):=fun bV g' m a1 a2 a3=>q bV g' m a1 (by rw [Yq];exact a2) a3
 have Jv:sb < arr.size:=by omega
 obtain ⟨b0,Jv,Nn⟩:=i0 Jv;have MO:(arr.toList.drop sb).take nb = b0 :: (arr.toList.drop (sb + 1)).take (nb - 1):=by
  rw [Nn,show nb = (nb - 1) + 1 by omega,List.take_succ_cons];rfl
 have Rv:M b0:=mB _ (by rw [MO];exact List.mem_cons_self);generalize hA:(arr.toList.drop sa).take na = lA at *;generalize hB:(arr.toList.drop sb).take nb = lB at *;have same:(∀ x ∈ lA,∀ y ∈ lB,c x y = true)->Q true (Ms κ arr ((pend.setIfInBounds i (sa,na + nb,p1)).eraseIdxIfInBounds (i + 1)) g):=fun eQ=>q' arr g (lA ++ lB) Ex (List.Perm.refl _) (List.pairwise_append.mpr ⟨sA,sB,eQ⟩)
 show wpS (model prog w) A E s ((type_of% mergeAt) i) Q (Ms κ arr pend g)
 delta mergeAt
 lcg_src;refine wpS_bind (wpS_get ?_);lcg_src;rw [show (pendingOf (Ms κ arr pend g))[i]? = some (sa,na,p1) from h1,show (pendingOf (Ms κ arr pend g))[i + 1]? = some (sb,nb,p2) from h2];lcg_src;refine wpS_bind (FR ?_);refine wpS_bind (aU Jv ?_);refine wpS_bind (lM L (by show sa + na <= arr.size;omega) (by rw [hA];exact sA) (by rw [hA];exact mA) Rv na0 rfl fun k1 wV f1 f2=>?_)
 rw [hA] at f2;have f1:∀ x ∈ lA.take k1,c b0 x = false:=fun x hx=>f1 x (by rw [<- hA,List.take_take,Nat.min_eq_left wV] at hx;exact hx)
 lcg_src;have lt0:∀ x,M x->c x b0 = true->∀ y ∈ lB,c x y = true:=fun x mx e=>by
  rw [MO] at sB mB ⊢;exact iF L sB Rv mx (fun z hz=>mB z (List.mem_cons_of_mem _ hz)) e
 have Tt:b0 ∈ lB:=by rw [MO];exact List.mem_cons_self
 have Yo:∀ x ∈ lA.take k1,∀ y ∈ lB,c x y = true:=fun x hx=>by
  have Im:=List.mem_of_mem_take hx;exact lt0 x (mA x Im) (L.tot _ _ Rv (mA x Im) (fun e=>Kw x Im b0 Tt e.symm) (f1 x hx))
 refine ax (fun e1=>?_) fun e1=>?_
 ·have e1:na - k1 = 0:=eq_of_beq e1;refine wpS_pure (same fun x hx y hy=>Yo x ?_ y hy)
  rw [List.take_of_length_le (by omega)];exact hx
 have e1:na - k1 ≠ 0:=by simpa using e1
 have eA:(arr.extract (sa + k1) sb).toList = lA.drop k1:=by
  rw [x5,<- hA,List.drop_take,List.drop_take,List.drop_drop]
  congr 1
  omega
 have Xi:(arr.extract (sa + k1) sb).size = na - k1:=by rw [<- Array.length_toList,eA,List.length_drop,KA]
 obtain ⟨x,hx,dx⟩:=iR (a:=arr.extract (sa + k1) sb) (n:=na - k1) (by omega) (by omega);have Im:arr[sa + k1 + (na - k1) - 1]? = some x:=by
  rw [Array.getElem?_extract,if_pos (by omega)] at hx;rw [show sa + k1 + (na - k1) - 1 = sa + k1 + (na - k1 - 1) by omega];exact hx
 have UL:lA.drop k1 = (lA.drop k1).take (na - k1 - 1) ++ [x]:=by
  rw [eA,List.take_of_length_le (by rw [List.length_drop];omega)] at dx;exact dx
 have CM:x ∈ lA:=List.mem_of_mem_drop (i:=k1) (by rw [UL];simp);have mx:M x:=mA x CM;have ZP:∀ z ∈ lA,∀ y,M y->c x y = true->c z y = true:=fun z hz y my e=>by
  have e2:lA = (lA.take k1 ++ (lA.drop k1).take (na - k1 - 1)) ++ [x]:=by
   rw [List.append_assoc,<- UL,List.take_append_drop]
  rw [e2] at hz sA mA;exact iD L sA mx my (fun z hz=>mA z (List.mem_append_left _ hz)) e z hz
 refine wpS_bind (aU Im ?_);refine wpS_bind (oK L hsz (by rw [hB];exact sB) (by rw [hB];exact mB) mx (by omega) rfl fun k2 uT f3 f4=>?_)
 rw [hB] at f4;have f3:∀ z ∈ lB.take k2,c z x = true:=fun z hz=>f3 z (by rw [<- hB,List.take_take,Nat.min_eq_left uT] at hz;exact hz)
 have Ud:∀ y ∈ lB.drop k2,∀ z ∈ lA,c z y = true:=fun y hy z hz=>by
  have KU:=List.mem_of_mem_drop hy;exact ZP z hz y (mB y KU) (L.tot _ _ (mB y KU) mx (fun e=>Kw x CM y KU e.symm) (f4 y hy))
 lcg_src;refine ax (fun e2=>?_) fun e2=>?_
 ·have e2:k2 = 0:=eq_of_beq e2;refine wpS_pure (same fun x hx y hy=>Ud y ?_ x hx)
  rw [e2,List.drop_zero];exact hy
 have e2:k2 ≠ 0:=by simpa using e2
 (lcg_src;lcg_sub;lcg_sub)
 (extract_lets +onlyGivenNames -underBinder -merge -useContext J;clear_value (hJ:J = _))
 have eB:(arr.extract sb (sb + k2)).toList = lB.take k2:=by
  rw [oO,<- hB,List.take_take,Nat.min_eq_left uT]
 have sz2:(arr.extract sb (sb + k2)).size = k2:=by rw [<- Array.length_toList,eB,List.length_take,Kz];omega
 have j:∀ (r:Array Keyed) g',r.toList.Perm (lA.drop k1 ++ lB.take k2)->fT c r.toList->wpS (model prog w) A E s (J r) Q (Gs (Ms κ arr ((pend.setIfInBounds i (sa,na + nb,p1)).eraseIdxIfInBounds (i + 1)) g) g'):=fun r g' pr sr=>by
  rw [hJ];lcg_src;refine wpS_bind (wpS_modify (wpS_bind (wpS_get (wpS_pure ?_))));have lr:r.toList.length = na - k1 + k2:=by rw [pr.length_eq,List.length_append,List.length_drop,List.length_take,KA,Kz];omega
  refine q' _ g' (lA.take k1 ++ r.toList ++ lB.drop k2) ((xI r.toList 0 arr (by omega)).trans ?_) ?_ ?_
  ·have h3:arr.toList.take (sa + k1 + 0) = arr.toList.take sa ++ lA.take k1:=by
    rw [Nat.add_zero,List.take_add,<- hA,List.take_take,Nat.min_eq_left wV]
   have h4:arr.toList.drop (sa + k1 + 0 + r.toList.length) = lB.drop k2 ++ arr.toList.drop (sb + nb):=by
    rw [lr,show sa + k1 + 0 + (na - k1 + k2) = sb + k2 by omega,<- hB,List.drop_take];rw [show arr.toList.drop (sb + nb) = (arr.toList.drop (sb + k2)).drop (nb - k2) by rw [List.drop_drop];congr 1;omega,List.drop_drop,List.take_append_drop]
   rw [h3,h4];simp only [List.append_assoc]
  ·have:lA ++ lB = lA.take k1 ++ (lA.drop k1 ++ lB.take k2) ++ lB.drop k2:=by
    rw [<- List.append_assoc,List.take_append_drop,List.append_assoc,List.take_append_drop]
   rw [this];exact List.Perm.append_right _ (List.Perm.append_left _ pr)
  ·have Z':fT c (lA.take k1 ++ lA.drop k1):=by rw [List.take_append_drop];exact sA
   have Z9:fT c (lB.take k2 ++ lB.drop k2):=by rw [List.take_append_drop];exact sB
   have pA:=List.pairwise_append.mp Z';have pB:=List.pairwise_append.mp Z9;have m1:∀ x ∈ lA.take k1,∀ y ∈ r.toList,c x y = true:=fun x hx y hy=>by
    rcases List.mem_append.mp (pr.mem_iff.mp hy) with hy | hy
    ·exact pA.2.2 x hx y hy
    ·exact Yo x hx y (List.mem_of_mem_take hy)
   have m2:∀ x ∈ r.toList,∀ y ∈ lB.drop k2,c x y = true:=fun x hx y hy=>by
    rcases List.mem_append.mp (pr.mem_iff.mp hx) with hx | hx
    ·exact Ud y hy x (List.mem_of_mem_drop hx)
    ·exact pB.2.2 x hx y hy
   refine List.pairwise_append.mpr ⟨List.pairwise_append.mpr ⟨pA.1,sr,m1⟩,pB.2.1,fun x hx y hy=>?_⟩
   rcases List.mem_append.mp hx with hx | hx
   ·exact Ud y hy x (List.mem_of_mem_take hx)
   ·exact m2 x hx y hy
 have Xq:fT c (lA.drop k1):=sA.sublist (List.drop_sublist _ _);have Xp:fT c (lB.take k2):=sB.sublist (List.take_sublist _ _);have XE:∀ x ∈ lA.drop k1 ++ lB.take k2,M x:=fun x hx=>by
  rcases List.mem_append.mp hx with hx | hx
  ·exact mA x (List.mem_of_mem_drop hx)
  ·exact mB x (List.mem_of_mem_take hx)
 have XB:(lA.drop k1 ++ lB.take k2).Nodup:=Kx.sublist ((List.drop_sublist _ _).append (List.take_sublist _ _));have tb:lB.take k2 = b0 :: ((arr.toList.drop (sb + 1)).take (nb - 1)).take (k2 - 1):=by
  rw [MO,show k2 = (k2 - 1) + 1 by omega,List.take_succ_cons];rfl
 refine ax (fun g1=>?_) fun g1=>?_
 ·refine wpS_bind (JD L (all:=lA.drop k1 ++ lB.take k2) (by rw [eA,eB];exact ⟨List.Perm.refl _,List.Pairwise.nil,Xq,Xp,fun _ z=>(nomatch z),XE,XB⟩) (show 0 < (arr.extract (sa + k1) sb).size by omega) (show 0 < (arr.extract sb (sb + k2)).size by omega) (fun z hz y hy=>?_) (fun z hz y hy=>?_) rfl fun r g' p1 p2=>?_)
  ·have:z = b0:=by
    rw [<- Array.getElem?_toList,eB,tb] at hz;exact (Option.some.inj hz).symm
   rw [this];exact f2 y (by rw [eA] at hy;exact hy)
  ·rw [eB] at hz;rw [Xi,eA,UL] at hy;have:y = x:=by
    rw [List.drop_append_of_le_length (by rw [List.length_take,List.length_drop];omega),List.drop_of_length_le (by rw [List.length_take];omega)] at hy;simpa using hy
   rw [this];exact f3 z hz
  ·exact j r g' p1 p2
 ·refine wpS_bind (JE L (all:=lA.drop k1 ++ lB.take k2) (by rw [eA,eB];exact ⟨by rw [List.append_nil],List.Pairwise.nil,Xq,Xp,fun _ _ _ z=>(nomatch z),XE,XB⟩) (show 0 < (arr.extract (sa + k1) sb).size by omega) (show 0 < (arr.extract sb (sb + k2)).size by omega) (fun z hz y hy=>?_) (fun z hz y hy=>?_) rfl fun r g' p1 p2=>?_)
  ·have:z = b0:=by
    rw [eB,tb] at hz;simpa using hz
   rw [this];exact f2 y (by rw [eA] at hy;exact hy)
  ·rw [eB] at hz;rw [Xi,hx] at hy
   cases hy
   exact f3 z hz
  ·exact j r g' p1 p2
end
end TS
namespace TS
variable {arr a b:Array Keyed} {i j lo hi n:Nat} {c:Keyed->Keyed->Bool}
local macro_rules | `(tactic| lcg_src) => `(tactic| try dsimp (zeta := false) (zetaUnused := false) only)
local macro_rules | `(tactic| lcg_sub) => `(tactic| (extract_lets +onlyGivenNames -underBinder -merge -useContext zz; subst zz; try dsimp (zeta := false) (zetaUnused := false) only))
open PySem PySem.W PyProof.Rows
abbrev ka (arr:Array Keyed) (i:Nat):Keyed:=arr.getD i (Value.none,Value.none)
theorem oF (h:i < arr.size):arr[i]? = some (ka arr i):=by
 unfold ka;rw [Array.getD_eq_getD_getElem?,Array.getElem?_eq_getElem h];rfl
theorem ma {bV:Array Keyed} (h:bV[i]? = arr[j]?):ka bV i = ka arr j:=by
 unfold ka;rw [Array.getD_eq_getD_getElem?,Array.getD_eq_getD_getElem?,h]
structure Gd (M:Keyed->Prop) (arr:Array Keyed):Prop where
 mm:∀ x ∈ arr.toList,M x
 nd:arr.toList.Nodup
theorem Gd.perm {M:Keyed->Prop} {bV:Array Keyed} (h:Gd M arr) (p:bV.Perm arr):Gd M bV:=by
 have p':=Array.perm_iff_toList_perm.mp p;exact ⟨fun x hx=>h.mm x (p'.mem_iff.mp hx),p'.nodup_iff.mpr h.nd⟩
theorem Gd.at_ {M:Keyed->Prop} (h:Gd M arr) (hi:i < arr.size):M (ka arr i):=by
 have:=oF hi;rw [<- Array.getElem?_toList] at this;exact h.mm _ (List.mem_of_getElem? this)
theorem Gd.ne {M:Keyed->Prop} (h:Gd M arr) (hi:i < arr.size) (hj:j < arr.size) (uU:i ≠ j):ka arr i ≠ ka arr j:=by
 have h1:=oF hi;have h2:=oF hj;rw [<- Array.getElem?_toList] at h1 h2;obtain ⟨l1,e1⟩:=List.getElem?_eq_some_iff.mp h1;obtain ⟨l2,e2⟩:=List.getElem?_eq_some_iff.mp h2;rw [<- e1,<- e2];have q:=List.pairwise_iff_getElem.mp h.nd
 by_cases z:i < j
 ·exact q i j l1 l2 z
 ·exact fun e=>q j i l2 l1 (by omega) e.symm
structure Loc (arr bV:Array Keyed) (lo hi:Nat):Prop where
 pm:bV.Perm arr
 out:∀ i,i < lo \/ hi <= i->bV[i]? = arr[i]?
theorem Loc.refl:Loc arr arr lo hi:=⟨Array.Perm.refl _,fun _ _=>rfl⟩
theorem Loc.trans {d:Array Keyed} (h:Loc a b lo hi) (h':Loc b d lo hi):Loc a d lo hi:=⟨h'.pm.trans h.pm,fun i z=>(h'.out i z).trans (h.out i z)⟩
theorem Loc.mono {Js:Nat} (h:Loc a b lo hi) (z:hi <= Js):Loc a b lo Js:=⟨h.pm,fun i y=>h.out i (by omega)⟩
theorem Loc.size (h:Loc a b lo hi):b.size = a.size:=h.pm.size_eq
def Ups (c:Keyed->Keyed->Bool) (arr:Array Keyed) (lo n:Nat):Prop:=∀ i j,i < j->j < n->c (ka arr (lo + i)) (ka arr (lo + j)) = true
def Dns (c:Keyed->Keyed->Bool) (arr:Array Keyed) (lo n:Nat):Prop:=∀ i j,i < j->j < n->c (ka arr (lo + j)) (ka arr (lo + i)) = true
theorem Ups.srt (h:Ups c arr lo n) (hn:lo + n <= arr.size):fT c ((arr.toList.drop lo).take n):=by
 have hl:((arr.toList.drop lo).take n).length = n:=by rw [List.length_take,List.length_drop,Array.length_toList];omega
 refine List.pairwise_iff_getElem.mpr fun i j hi hj uU=>?_
 obtain ⟨h1,e1⟩:=seg_at hn (show i < n by omega);obtain ⟨h2,e2⟩:=seg_at hn (show j < n by omega);rw [oF (by omega)] at e1 e2;rw [<- Option.some.inj e1,<- Option.some.inj e2];exact h i j uU (by omega)
theorem Ups.of_srt (hn:lo + n <= arr.size) (h:fT c ((arr.toList.drop lo).take n)):Ups c arr lo n:=fun i j uU hj=>by
 obtain ⟨h1,e1⟩:=seg_at hn (show i < n by omega);obtain ⟨h2,e2⟩:=seg_at hn (show j < n by omega);rw [oF (by omega)] at e1 e2;rw [Option.some.inj e1,Option.some.inj e2];exact List.pairwise_iff_getElem.mp h i j h1 h2 uU
section
variable {prog:Program} {w:World} {A:Around} {s:Shared} {E:Value->Shared->Prop} {κ:SortKind} {M:Keyed->Prop}
theorem iP (L:sY prog w A s κ M c) {p:Array (Nat × Nat × Nat)} {g:Nat} (G:Gd M arr) (hi:i < arr.size) (hj:j < arr.size) {Q:Option Bool->SortSt->Prop} (q:Q (some (c (ka arr i) (ka arr j))) (Ms κ arr p g)):wpS (model prog w) A E s (ltAt' i j) Q (Ms κ arr p g):=by
 rw [ltAt'_eq];refine wpS_bind (wpS_get ?_);refine wpS_bind (aU (oF hi) ?_);refine wpS_bind (aU (oF hj) ?_);exact tw L (G.at_ hi) (G.at_ hj) rfl q
theorem ng {β : Type} {f : Nat -> β -> StateT SortSt Sem (ForInStep β)} {Q : β -> SortSt -> Prop} (I : Nat -> β -> SortSt -> Prop)
    (step:∀ x k b st,I (k + 1) b st->wpS (model prog w) A E s (f x b) (CA Q fun b' bj=>I k b' bj) st) (fin:∀ b st,I 0 b st->Q b st) :
    ∀ (l:List Nat) (b:β) (st:SortSt),I l.length b st->wpS (model prog w) A E s (forIn l b f) Q st
 | [],b,st,i=>by
  rw [List.forIn_nil];exact wpS_pure (fin b st i)
 | x :: l,b,st,i=>by
  rw [List.forIn_cons];refine wpS_bind (wpS_mono (step x l.length b st i) fun r bj hr=>?_)
  cases r with
  | done b'=>exact wpS_pure hr
  | yield b'=>exact ng I step fin l b' bj hr
theorem Ups.more (L:sY prog w A s κ M c) (G:Gd M arr) (hn:lo + n < arr.size) (h1:1 <= n) (u:Ups c arr lo n) (e:c (ka arr (lo + n - 1)) (ka arr (lo + n)) = true):Ups c arr lo (n + 1):=fun i j uU hj=>by
 by_cases z:j < n
 ·exact u i j uU z
 ·obtain rfl:j = n:=by omega
  by_cases y:i = j - 1
  ·rw [y,show lo + (j - 1) = lo + j - 1 by omega];exact e
  ·refine L.trans _ (ka arr (lo + j - 1)) _ (G.at_ (by omega)) (G.at_ (by omega)) (G.at_ hn) ?_ e;rw [show lo + j - 1 = lo + (j - 1) by omega];exact u i (j - 1) (by omega) (by omega)
theorem Dns.more (L:sY prog w A s κ M c) (G:Gd M arr) (hn:lo + n < arr.size) (h1:1 <= n) (u:Dns c arr lo n) (e:c (ka arr (lo + n)) (ka arr (lo + n - 1)) = true):Dns c arr lo (n + 1):=fun i j uU hj=>by
 by_cases z:j < n
 ·exact u i j uU z
 ·obtain rfl:j = n:=by omega
  by_cases y:i = j - 1
  ·rw [y,show lo + (j - 1) = lo + j - 1 by omega];exact e
  ·refine L.trans _ (ka arr (lo + j - 1)) _ (G.at_ hn) (G.at_ (by omega)) (G.at_ (by omega)) e ?_;rw [show lo + j - 1 = lo + (j - 1) by omega];exact u i (j - 1) (by omega) (by omega)
theorem D9 (hn:lo + n <= arr.size):Loc arr (mirror arr lo (lo + n) ((lo + n - lo) / 2)) lo (lo + n):=by
 refine ⟨mirror_perm _ _ _ _,fun i z=>?_⟩;rw [getElem?_mirror_all hn,if_neg (by omega)]
theorem Dns.rev (hn:lo + n <= arr.size) (d:Dns c arr lo n):Ups c (mirror arr lo (lo + n) ((lo + n - lo) / 2)) lo n:=fun i j uU hj=>by
 have e:∀ i,i < n->ka (mirror arr lo (lo + n) ((lo + n - lo) / 2)) (lo + i) = ka arr (lo + (n - 1 - i)):=fun i hi=>ma (by
  rw [getElem?_mirror_all hn,if_pos (by omega)]
  congr 1
  omega)
 rw [e i (by omega),e j hj];exact d _ _ (by omega) (by omega)
theorem zP (L : sY prog w A s κ M c) {p : Array (Nat × Nat × Nat)} {g mQ : Nat} (G : Gd M arr) (hn : lo + mQ <= arr.size) (h1 : 1 <= mQ) {Q : Option Nat -> SortSt -> Prop}
    (q:∀ n bV,1 <= n->n <= mQ->Loc arr bV lo (lo + n)->Ups c bV lo n->Q (some n) (Ms κ bV p g)):wpS (model prog w) A E s (countRun' lo mQ) Q (Ms κ arr p g):=by
 rw [countRun'_eq]
 (lcg_src;lcg_sub)
 refine wpS_bind ?_;rw [range_list];refine wpS_mono (Q:=fun (r:Option (Option Nat) × Nat) st=>st = Ms κ arr p g/\r.1 = none/\1 <= r.2/\r.2 <= mQ/\Ups c arr lo r.2/\(r.2 < mQ->c (ka arr (lo + r.2)) (ka arr (lo + r.2 - 1)) = true))
  (ng (fun k (r:Option (Option Nat) × Nat) st=>st = Ms κ arr p g/\r.1 = none/\1 <= r.2/\r.2 + k = mQ/\Ups c arr lo r.2) ?_ ?_ _ _ _ ⟨rfl,rfl,Nat.le_refl _,by rw [List.length_range'];dsimp only;omega,fun i j a b=>by dsimp only at b;omega⟩) ?_
 ·rintro x k ⟨r,n⟩ st ⟨rfl,rfl,a1,a2,u⟩;dsimp only at a1 a2 u
  (lcg_src;lcg_sub)
  refine wpS_bind (iP L G (by omega) (by omega) ?_);lcg_src
  cases e:c (ka arr (lo + n)) (ka arr (lo + n - 1)) with
  | true=>exact ax (fun _=>wpS_pure ⟨rfl,rfl,a1,by dsimp only;omega,u,fun _=>e⟩) fun z=>absurd rfl z
  | false =>
   refine ax (fun z=>nomatch z) fun _=>?_
   (lcg_src;lcg_sub)
   exact wpS_pure ⟨rfl,rfl,by dsimp only;omega,by dsimp only;omega,u.more L G (by omega) a1 (L.tot _ _ (G.at_ (by omega)) (G.at_ (by omega)) (G.ne (by omega) (by omega) (by omega)) e)⟩
 ·rintro ⟨r,n⟩ st ⟨rfl,rfl,a1,a2,u⟩;exact ⟨rfl,rfl,a1,by omega,u,fun z=>by omega⟩
 rintro ⟨r,n⟩ st ⟨rfl,rfl,a1,a2,u,ex⟩;dsimp only at a1 a2 u ex
 (lcg_src;lcg_sub;lcg_sub)
 refine ax (fun e=>wpS_pure (q n arr a1 a2 Loc.refl u)) fun e=>?_
 have e:n ≠ mQ:=by simpa using e
 (extract_lets +onlyGivenNames -underBinder -merge -useContext J;clear_value (hJ:J = _))
 refine ax (fun S9=>?_) fun S9=>?_
 ·refine wpS_bind (iP L G (by omega) (by omega) ?_);lcg_src;have:c (ka arr lo) (ka arr (lo + n - 1)) = true:=by
   have:=u 0 (n - 1) (by omega) (by omega);rw [show lo + (n - 1) = lo + n - 1 by omega] at this;exact this
  refine ax (fun _=>wpS_pure (q n arr a1 a2 Loc.refl u)) fun z=>absurd this z
 obtain rfl:n = 1:=by omega
 have ex:=ex (by omega);rw [hJ];lcg_src;refine wpS_bind (iO ?_)
 (lcg_src;lcg_sub;lcg_sub)
 refine wpS_bind ?_;rw [range_list];refine wpS_mono (Q:=fun (r:Option (Option Nat) × Nat × Nat) st=>st = Ms κ arr p g/\r.1 = none/\r.2.2 = 0/\2 <= r.2.1/\r.2.1 <= mQ/\Dns c arr lo r.2.1)
  (ng (fun k (r:Option (Option Nat) × Nat × Nat) st=>st = Ms κ arr p g/\r.1 = none/\r.2.2 = 0/\2 <= r.2.1/\r.2.1 + k = mQ/\Dns c arr lo r.2.1) ?_ ?_ _ _ _ ⟨rfl,rfl,rfl,Nat.le_refl _,by rw [List.length_range'];dsimp only;omega,fun i j a b=>by
   dsimp only at b;obtain rfl:i = 0:=by omega
   obtain rfl:j = 1:=by omega
   exact ex⟩) ?_
 ·rintro x k ⟨r,n,Xy⟩ st ⟨rfl,rfl,rfl,a1,a2,u⟩;dsimp only at a1 a2 u
  (lcg_src;lcg_sub;lcg_sub;lcg_sub)
  refine wpS_bind (iP L G (by omega) (by omega) ?_);lcg_src
  (extract_lets +onlyGivenNames -underBinder -merge -useContext J2;clear_value (IG:J2 = _))
  cases e:c (ka arr (lo + n)) (ka arr (lo + n - 1)) with
  | true =>
   refine ax (fun _=>?_) fun z=>absurd rfl z
   (extract_lets +onlyGivenNames -underBinder -merge -useContext J3;clear_value (Lp:J3 = _))
   refine ax (fun z=>absurd z (Nat.lt_irrefl 0)) fun _=>?_
   rw [Lp,IG]
   (lcg_src;lcg_sub;lcg_sub)
   exact wpS_pure ⟨rfl,rfl,rfl,by dsimp only;omega,by dsimp only;omega,u.more L G (by omega) (by omega) e⟩
  | false =>
   refine ax (fun z=>nomatch z) fun _=>?_
   have e':=L.tot _ _ (G.at_ (by omega)) (G.at_ (by omega)) (G.ne (by omega) (by omega) (by omega)) e;refine wpS_bind (iP L G (by omega) (by omega) ?_);lcg_src;refine ax (fun _=>wpS_pure ⟨rfl,rfl,rfl,a1,by dsimp only;omega,u⟩) fun z=>absurd e' z
 ·rintro ⟨r,n,Xy⟩ st ⟨rfl,rfl,rfl,a1,a2,u⟩;exact ⟨rfl,rfl,rfl,a1,by omega,u⟩
 rintro ⟨r,n,Xy⟩ st ⟨rfl,rfl,rfl,a1,a2,u⟩;dsimp only at a1 a2 u
 (lcg_src;lcg_sub;lcg_sub;lcg_sub;lcg_sub)
 (extract_lets +onlyGivenNames -underBinder -merge -useContext J4;clear_value (hJ4:J4 = _))
 refine ax (fun z=>absurd z (Nat.lt_irrefl 0)) fun _=>?_
 rw [hJ4];lcg_src;refine wpS_bind (wpS_reverse ?_);have lc:=D9 (arr:=arr) (lo:=lo) (n:=n) (by omega);have u2:=u.rev (by omega);show wpS _ _ _ _ _ _ (Ms κ (mirror arr lo (lo + n) ((lo + n - lo) / 2)) p g);generalize mirror arr lo (lo + n) ((lo + n - lo) / 2) = cA at *;have G2:=G.perm lc.pm;have sz:=lc.size;refine wpS_bind ?_;rw [range_list];refine wpS_mono (Q:=fun (r:Option (Option Nat) × Nat) st=>st = Ms κ cA p g/\r.1 = none/\n <= r.2/\r.2 <= mQ/\Ups c cA lo r.2)
  (ng (fun k (r:Option (Option Nat) × Nat) st=>st = Ms κ cA p g/\r.1 = none/\n <= r.2/\r.2 + k = mQ/\Ups c cA lo r.2) ?_ ?_ _ _ _ ⟨rfl,rfl,Nat.le_refl _,by rw [List.length_range'];dsimp only;omega,u2⟩) ?_
 ·rintro x k ⟨r,m⟩ st ⟨rfl,rfl,a1,a2,u⟩;dsimp only at a1 a2 u
  (lcg_src;lcg_sub)
  refine wpS_bind (iP L G2 (by omega) (by omega) ?_);lcg_src
  cases e:c (ka cA (lo + m)) (ka cA (lo + m - 1)) with
  | true=>exact ax (fun _=>wpS_pure ⟨rfl,rfl,a1,by dsimp only;omega,u⟩) fun z=>absurd rfl z
  | false =>
   refine ax (fun z=>nomatch z) fun _=>?_
   (lcg_src;lcg_sub)
   exact wpS_pure ⟨rfl,rfl,by dsimp only;omega,by dsimp only;omega,u.more L G2 (by omega) (by omega) (L.tot _ _ (G2.at_ (by omega)) (G2.at_ (by omega)) (G2.ne (by omega) (by omega) (by omega)) e)⟩
 ·rintro ⟨r,m⟩ st ⟨rfl,rfl,a1,a2,u⟩;exact ⟨rfl,rfl,a1,by omega,u⟩
 rintro ⟨r,m⟩ st ⟨rfl,rfl,a1,a2,u⟩;dsimp only at a1 a2 u
 (lcg_src;lcg_sub;lcg_sub)
 exact wpS_pure (q m cA (by omega) a2 (lc.mono (by omega)) u)
end
end TS
namespace TS
local macro_rules | `(tactic| lcg_src) => `(tactic| try dsimp (zeta := false) (zetaUnused := false) only)
local macro_rules | `(tactic| lcg_sub) => `(tactic| (extract_lets +onlyGivenNames -underBinder -merge -useContext zz; subst zz; try dsimp (zeta := false) (zetaUnused := false) only))
open PySem PySem.W PyProof.Rows
section
variable {prog:Program} {w:World} {A:Around} {s:Shared} {E:Value->Shared->Prop} {κ:SortKind} {M:Keyed->Prop} {c:Keyed->Keyed->Bool}
theorem D' {arr:Array Keyed} {lo k l:Nat} (hk:lo + k < arr.size) (hl:l <= k):Loc arr (bubble arr (lo + k) (lo + k - (lo + l))) lo (lo + k + 1):=by
 refine ⟨bubble_perm _ _ _,fun i z=>?_⟩;rw [getElem?_bubble hk _ (by omega),if_neg (by omega),if_neg (by omega)]
theorem FT (L : sY prog w A s κ M c) {arr : Array Keyed} {p : Array (Nat × Nat × Nat)} {g lo n ok : Nat} (G : Gd M arr) (hn : lo + n <= arr.size) (h1 : 1 <= ok) (h2 : ok <= n) (u : Ups c arr lo ok) {Q : Bool -> SortSt -> Prop}
    (q:∀ bV,Loc arr bV lo (lo + n)->Ups c bV lo n->Q true (Ms κ bV p g)):wpS (model prog w) A E s (binarySort' lo n ok) Q (Ms κ arr p g):=by
 rw [binarySort'_eq];refine wpS_bind ?_;rw [show max ok 1 = ok by omega];refine wpS_mono (Q:=fun (r:Option Bool × PUnit) st=>∃ bV,st = Ms κ bV p g/\r.1 = none/\Loc arr bV lo (lo + n)/\Ups c bV lo n)
  (wpS_forRange (fun k (r:Option Bool × PUnit) st=>∃ bV,st = Ms κ bV p g/\r.1 = none/\Loc arr bV lo (lo + n)/\Ups c bV lo k) ?_ ?_ ⟨arr,rfl,rfl,Loc.refl,u⟩) ?_
 ·rintro k ⟨r,_⟩ st wV uT ⟨cA,rfl,rfl,lc,u2⟩;have G2:=G.perm lc.pm;have sz:=lc.size
  (lcg_src;lcg_sub;lcg_sub)
  refine wpS_bind ?_;rw [range_list];refine wpS_mono (Q:=fun (r:Option Bool × Nat × Nat) st=>st = Ms κ cA p g/\r.1 = none/\r.2.1 <= k/\(∀ j,j < r.2.1->c (ka cA (lo + j)) (ka cA (lo + k)) = true)/\(∀ j,r.2.1 <= j->j < k->c (ka cA (lo + k)) (ka cA (lo + j)) = true))
   (nF (fun f (r:Option Bool × Nat × Nat) st=>st = Ms κ cA p g/\r.1 = none/\r.2.1 <= r.2.2/\r.2.2 <= k/\f = r.2.2 - r.2.1/\(∀ j,j < r.2.1->c (ka cA (lo + j)) (ka cA (lo + k)) = true)/\(∀ j,r.2.2 <= j->j < k->c (ka cA (lo + k)) (ka cA (lo + j)) = true)) ?_ ?_ _ k _ _ (by rw [List.length_range'];exact Nat.le_refl _) ⟨rfl,rfl,Nat.zero_le _,Nat.le_refl _,rfl,fun j z=>absurd z (Nat.not_lt_zero _),fun j z y=>by dsimp only at z;omega⟩) ?_
  ·rintro _ f ⟨r0,l,r⟩ st ⟨rfl,rfl,b1,b2,b3,b4,b5⟩;dsimp only at b1 b2 b3 b4 b5
   (lcg_src;lcg_sub;lcg_sub;lcg_sub)
   refine ax (fun e=>wpS_pure ⟨rfl,rfl,by dsimp only;omega,b4,fun j y z=>b5 j (by dsimp only at y;omega) z⟩) fun e=>?_
   (lcg_src;lcg_sub)
   refine wpS_bind (iP L G2 (by omega) (by omega) ?_);lcg_src
   cases e2:c (ka cA (lo + k)) (ka cA (lo + (l + r) / 2)) with
   | true =>
    refine ax (fun _=>?_) fun z=>absurd rfl z
    (lcg_src;lcg_sub)
    refine wpS_pure ⟨_,show (l + r) / 2 - l < f by omega,rfl,rfl,by dsimp only;omega,by dsimp only;omega,rfl,b4,fun j y z=>?_⟩;dsimp only at y
    by_cases z2:j = (l + r) / 2
    ·rw [z2];exact e2
    ·exact L.trans _ _ _ (G2.at_ (by omega)) (G2.at_ (by omega)) (G2.at_ (by omega)) e2 (u2 _ _ (by omega) z)
   | false =>
    refine ax (fun z=>nomatch z) fun _=>?_
    (lcg_src;lcg_sub)
    have e':=L.tot _ _ (G2.at_ (by omega)) (G2.at_ (by omega)) (G2.ne (by omega) (by omega) (by omega)) e2;refine wpS_pure ⟨_,show r - ((l + r) / 2 + 1) < f by omega,rfl,rfl,by dsimp only;omega,by dsimp only;omega,rfl,fun j y=>?_,b5⟩
    dsimp only at y
    by_cases z2:j = (l + r) / 2
    ·rw [z2];exact e'
    ·exact L.trans _ _ _ (G2.at_ (by omega)) (G2.at_ (by omega)) (G2.at_ (by omega)) (u2 _ _ (by omega) (by omega)) e'
  ·rintro ⟨r0,l,r⟩ st ⟨rfl,rfl,b1,b2,b3,b4,b5⟩;dsimp only at b1 b2 b3 b4 b5;exact ⟨rfl,rfl,by dsimp only;omega,b4,fun j y z=>b5 j (by dsimp only at y;omega) z⟩
  rintro ⟨r0,l,r⟩ st ⟨rfl,rfl,b1,b4,b5⟩;dsimp only at b1 b4 b5
  (lcg_src;lcg_sub;lcg_sub;lcg_sub)
  rw [moveDown'_eq];refine wpS_bind (wpS_modify (wpS_pure ⟨bubble cA (lo + k) (lo + k - (lo + l)),rfl,rfl,lc.trans ((D' (by omega) b1).mono (by omega)),fun i j uU hj=>?_⟩));have e:∀ i,ka (bubble cA (lo + k) (lo + k - (lo + l))) (lo + i) = if i = l then ka cA (lo + k) else if l < i/\i <= k then ka cA (lo + (i - 1)) else ka cA (lo + i):=fun i=>by
   have:=getElem?_bubble (xs:=cA) (src:=lo + k) (by omega) (lo + k - (lo + l)) (by omega) (lo + i)
   by_cases e1:i = l
   ·rw [if_pos e1];rw [if_pos (by omega)] at this;exact ma this
   ·rw [if_neg e1];rw [if_neg (by omega)] at this
    by_cases e2:l < i/\i <= k
    ·rw [if_pos e2];rw [if_pos (by omega),show lo + i - 1 = lo + (i - 1) by omega] at this;exact ma this
    ·rw [if_neg e2];rw [if_neg (by omega)] at this;exact ma this
  rw [e,e]
  by_cases e1:i = l
  ·rw [if_pos e1,if_neg (by omega),if_pos ⟨by omega,by omega⟩];exact b5 _ (by omega) (by omega)
  ·rw [if_neg e1]
   by_cases e2:l < i/\i <= k
   ·rw [if_pos e2,if_neg (by omega),if_pos ⟨by omega,by omega⟩];exact u2 _ _ (by omega) (by omega)
   ·rw [if_neg e2]
    by_cases e3:j = l
    ·rw [if_pos e3];exact b4 i (by omega)
    ·rw [if_neg e3]
     by_cases e4:l < j/\j <= k
     ·rw [if_pos e4];exact u2 _ _ (by omega) (by omega)
     ·rw [if_neg e4];exact u2 _ _ uU (by omega)
 ·rintro ⟨r,_⟩ st ⟨cA,rfl,rfl,lc,u2⟩;rw [show max ok n = n by omega] at u2;exact ⟨cA,rfl,rfl,lc,u2⟩
 ·rintro ⟨r,_⟩ st ⟨cA,rfl,rfl,lc,u2⟩;exact wpS_pure (q cA lc u2)
end
end TS
namespace TS
local macro_rules | `(tactic| lcg_src) => `(tactic| try dsimp (zeta := false) (zetaUnused := false) only)
local macro_rules | `(tactic| lcg_sub) => `(tactic| (extract_lets +onlyGivenNames -underBinder -merge -useContext zz; subst zz; try dsimp (zeta := false) (zetaUnused := false) only))
open PySem PySem.W PyProof.Rows
def Runs (c:Keyed->Keyed->Bool) (arr:Array Keyed):Nat->List (Nat × Nat × Nat)->Nat->Prop
 | s,[],e=>s = e
 | s,x :: l,e=>x.1 = s/\0 < x.2.1/\Ups c arr s x.2.1/\Runs c arr (s + x.2.1) l e
section
variable {c:Keyed->Keyed->Bool} {arr bV:Array Keyed}
theorem Runs.len:∀ {l:List (Nat × Nat × Nat)} {s e:Nat},Runs c arr s l e->l.length + s <= e
 | [],s,e,h=>by rw [show s = e from h];simp
 | x :: l,s,e,h=>by
  have:=h.2.2.2.len;have:=h.2.1;rw [List.length_cons];omega
theorem Runs.same:∀ {l:List (Nat × Nat × Nat)} {s e:Nat},Runs c arr s l e->(∀ i,s <= i->i < e->bV[i]? = arr[i]?)->Runs c bV s l e
 | [],s,e,h,_=>h
 | x :: l,s,e,h,k=>by
  have:=h.2.2.2.len;refine ⟨h.1,h.2.1,fun i j uU hj=>?_,h.2.2.2.same fun i a b=>k i (by omega) b⟩
  rw [ma (k (s + i) (by omega) (by omega)),ma (k (s + j) (by omega) (by omega))];exact h.2.2.1 i j uU hj
theorem Runs.append:∀ {l l':List (Nat × Nat × Nat)} {s e:Nat},Runs c arr s (l ++ l') e ↔ ∃ m,Runs c arr s l m/\Runs c arr m l' e
 | [],l',s,e=>⟨fun h=>⟨s,rfl,h⟩,fun ⟨m,h1,h2⟩=>by rw [show s = m from h1];exact h2⟩
 | x :: l, l', s, e => ⟨fun h => by
     obtain ⟨m,h1,h2⟩:=Runs.append.mp h.2.2.2;exact ⟨m,⟨h.1,h.2.1,h.2.2.1,h1⟩,h2⟩,fun ⟨m,h1,h2⟩=>⟨h1.1,h1.2.1,h1.2.2.1,Runs.append.mpr ⟨m,h1.2.2.2,h2⟩⟩⟩
theorem Runs.third:∀ {l l':List (Nat × Nat × Nat)} {s e:Nat},Runs c arr s l e->l'.map (fun x=>(x.1,x.2.1)) = l.map (fun x=>(x.1,x.2.1))->Runs c arr s l' e
 | [],[],_,_,h,_=>h
 | x :: l,y :: l',s,e,h,k=>by
  simp only [List.map_cons,List.cons.injEq,Prod.mk.injEq] at k;obtain ⟨⟨k1,k2⟩,k3⟩:=k;refine ⟨by rw [k1];exact h.1,by rw [k2];exact h.2.1,by rw [k2];exact h.2.2.1,by rw [k2];exact h.2.2.2.third k3⟩
 | [],_ :: _,_,_,_,k=>by simp at k
 | _ :: _,[],_,_,_,k=>by simp at k
theorem DL {p:Array (Nat × Nat × Nat)} {i:Nat} (h:i + 1 < p.size):∃ l1 l2 x y,p.toList = l1 ++ x :: y :: l2/\l1.length = i/\p[i]? = some x/\p[i + 1]? = some y/\∀ z,((p.setIfInBounds i z).eraseIdxIfInBounds (i + 1)).toList = l1 ++ z :: l2:=by
 have h1:i < p.toList.length:=by rw [Array.length_toList];omega
 have h2:i + 1 < p.toList.length:=by rw [Array.length_toList];omega
 have e:p.toList = p.toList.take i ++ p.toList[i] :: p.toList[i + 1] :: p.toList.drop (i + 2):=by
  rw [<- List.drop_eq_getElem_cons h2,<- List.drop_eq_getElem_cons h1,List.take_append_drop]
 have hl:(p.toList.take i).length = i:=by rw [List.length_take];omega
 refine ⟨p.toList.take i,p.toList.drop (i + 2),p.toList[i],p.toList[i + 1],e,hl,by rw [<- Array.getElem?_toList,List.getElem?_eq_getElem h1],by rw [<- Array.getElem?_toList,List.getElem?_eq_getElem h2],fun z=>?_⟩;rw [Array.eraseIdxIfInBounds];rw [dif_pos (by rw [Array.size_setIfInBounds];omega),Array.toList_eraseIdx,Array.toList_setIfInBounds];generalize p.toList.take i = l1 at *;generalize p.toList.drop (i + 2) = l2 at *;rw [e,List.set_append_right _ _ (by omega),hl,Nat.sub_self,List.set_cons_zero,List.eraseIdx_append_of_length_le (by omega),hl,show i + 1 - i = 1 by omega]
 rfl
end
section
variable {prog:Program} {w:World} {A:Around} {s:Shared} {E:Value->Shared->Prop} {κ:SortKind} {M:Keyed->Prop} {c:Keyed->Keyed->Bool}
theorem qk (L : sY prog w A s κ M c) {arr : Array Keyed} {p : Array (Nat × Nat × Nat)} {g i e : Nat} (G : Gd M arr) (R : Runs c arr 0 p.toList e) (he : e <= arr.size) (hi : i + 1 < p.size) {Q : Bool -> SortSt -> Prop}
    (q:∀ bV p' g',bV.Perm arr->(∀ i,e <= i->bV[i]? = arr[i]?)->Runs c bV 0 p'.toList e->p'.size + 1 = p.size->Q true (Ms κ bV p' g')):wpS (model prog w) A E s (mergeAt' i) Q (Ms κ arr p g):=by
 obtain ⟨l1,l2,⟨sa,na,p1⟩,⟨sb,nb,p2⟩,ep,hl,h1,h2,hz⟩:=DL hi;rw [ep] at R;obtain ⟨m,R1,R2⟩:=Runs.append.mp R;obtain ⟨e1,n1,u1,R3⟩:=R2;obtain ⟨e2,n2,u2,R4⟩:=R3;dsimp only at e1 n1 u1 e2 n2 u2 R4;subst e1;have l4:=R4.len;have l1':=R1.len;refine vV L h1 h2 e2 (by omega) n1 n2 (u1.srt (by omega)) (by rw [e2];exact u2.srt (by omega)) G.mm G.nd fun bV g' mm a1 a2 a3=>?_
 have BQ:(arr.toList.take sa).length = sa:=by rw [List.length_take,Array.length_toList];omega
 have hmm:mm.length = na + nb:=by rw [a2.length_eq,List.length_take,List.length_drop,Array.length_toList];omega
 have Ex:arr.toList = arr.toList.take sa ++ (arr.toList.drop sa).take (na + nb) ++ arr.toList.drop (sb + nb):=by
  rw [e2,Nat.add_assoc,<- List.drop_drop,List.append_assoc,List.take_append_drop,List.take_append_drop]
 have pm:bV.Perm arr:=by
  rw [Array.perm_iff_toList_perm,a1];rw (config:={ occs:=.pos [3] }) [Ex];exact List.Perm.append_right _ (List.Perm.append_left _ a2)
 have out:∀ i,i < sa \/ sb + nb <= i->bV[i]? = arr[i]?:=fun i hi=>by
  rw [<- Array.getElem?_toList,<- Array.getElem?_toList,a1]
  rcases hi with hi | hi
  ·rw [List.append_assoc,List.getElem?_append_left (by omega),List.getElem?_take_of_lt hi]
  ·rw [List.getElem?_append_right (by rw [List.length_append];omega),List.getElem?_drop,List.length_append]
   congr 1
   omega
 have seg:(bV.toList.drop sa).take (na + nb) = mm:=by
  rw [a1,List.append_assoc,List.drop_append_of_le_length (by omega),List.drop_of_length_le (by omega),List.nil_append,List.take_append_of_le_length (by omega),List.take_of_length_le (by omega)]
 refine q bV _ g' pm (fun i hi=>out i (by omega)) ?_ ?_
 ·rw [hz];refine Runs.append.mpr ⟨sa,R1.same fun i _ b=>out i (.inl b),rfl,by dsimp only;omega,?_,?_⟩
  ·dsimp only;refine Ups.of_srt (by rw [pm.size_eq];omega) ?_;rw [seg];exact a3
  ·dsimp only;rw [show sa + (na + nb) = sa + na + nb by omega];exact R4.same fun i a _=>out i (.inr (by omega))
 ·rw [<- Array.length_toList,hz,<- Array.length_toList (xs:=p),ep];simp only [List.length_append,List.length_cons];omega
end
end TS
namespace TS
local macro_rules | `(tactic| lcg_src) => `(tactic| try dsimp (zeta := false) (zetaUnused := false) only)
local macro_rules | `(tactic| lcg_sub) => `(tactic| (extract_lets +onlyGivenNames -underBinder -merge -useContext zz; subst zz; try dsimp (zeta := false) (zetaUnused := false) only))
open PySem PySem.W PyProof.Rows
section
variable {prog:Program} {w:World} {A:Around} {s:Shared} {E:Value->Shared->Prop} {κ:SortKind} {M:Keyed->Prop} {c:Keyed->Keyed->Bool}
theorem Ij {C:Prop} [Decidable C] {n:Nat} (h:2 <= n):(if C then n - 2 - 1 else n - 2) + 1 < n:=by split <;> omega
theorem yZ {p:Array (Nat × Nat × Nat)} {j:Nat} {f:Nat × Nat × Nat->Nat × Nat × Nat} (hf:∀ x,(f x).1 = x.1/\(f x).2.1 = x.2.1):(p.modify j f).toList.map (fun x=>(x.1,x.2.1)) = p.toList.map (fun x=>(x.1,x.2.1)):=by
 rw [Array.toList_modify];apply List.ext_getElem?;intro i;rw [List.getElem?_map,List.getElem?_map,List.getElem?_modify]
 cases p.toList[i]? with
 | none=>rfl
 | some x =>
  by_cases z:j = i
  ·show some ((if j = i then f x else x).1,(if j = i then f x else x).2.1) = _
   rw [if_pos z];show some ((f x).1,(f x).2.1) = _;rw [(hf x).1,(hf x).2]
   rfl
  ·show some ((if j = i then f x else x).1,(if j = i then f x else x).2.1) = _
   rw [if_neg z]
   rfl
theorem xp (L : sY prog w A s κ M c) {a₀ : Array Keyed} (G : Gd M a₀) (h2 : 2 <= a₀.size) {g : Nat} {Q : Unit -> SortSt -> Prop} (q : ∀ arr p g, arr.Perm a₀ -> Ups c arr 0 a₀.size -> Q () (Ms κ arr p g)) :
    wpS (model prog w) A E s sortRuns' Q (Ms κ a₀ #[] g):=by
 rw [sortRuns'_eq];refine wpS_bind (wpS_get ?_)
 (lcg_src;lcg_sub;lcg_sub;lcg_sub)
 have CP:(arrOf (Ms κ a₀ #[] g)).size = a₀.size:=rfl;rw [CP];generalize minRun' a₀.size a₀.size 0 = Ru;refine wpS_bind ?_;rw [range_list];refine wpS_mono (Q:=fun (r:Option Unit × Nat) st=>∃ arr p g,st = Ms κ arr p g/\r.1 = none/\arr.Perm a₀/\Runs c arr 0 p.toList a₀.size)
  (nF (fun k (r:Option Unit × Nat) st=>∃ arr p g,st = Ms κ arr p g/\r.1 = none/\arr.Perm a₀/\r.2 <= a₀.size/\Runs c arr 0 p.toList r.2/\k = a₀.size - r.2) ?_ ?_ _ a₀.size _ _ (by rw [List.length_range'];exact Nat.le_refl _) ⟨a₀,#[],g,rfl,rfl,Array.Perm.refl _,Nat.zero_le _,rfl,rfl⟩) ?_
 ·rintro _ k ⟨r0,lo⟩ st ⟨arr,p,g,rfl,rfl,pm,Na,R,hk⟩;dsimp only at Na R hk
  (lcg_src;lcg_sub)
  refine ax (fun e=>wpS_pure ⟨arr,p,g,rfl,rfl,pm,by rw [show lo = a₀.size by omega] at R;exact R⟩) fun e=>?_
  have sz:=pm.size_eq;refine wpS_bind (zP L (G.perm pm) (by omega) (by omega) fun n qe n1 n2 lc u=>?_)
  (lcg_src;lcg_sub)
  (extract_lets +onlyGivenNames -underBinder -merge -useContext J;clear_value (hJ:J = _))
  have R1:Runs c qe 0 p.toList lo:=R.same fun i _ b=>lc.out i (.inl b)
  have DG:=lc.pm.trans pm;have j:∀ n qe,1 <= n->lo + n <= a₀.size->qe.Perm a₀->Runs c qe 0 p.toList lo->Ups c qe lo n->wpS (model prog w) A E s (J () n) (CA (fun (r:Option Unit × Nat) st=>∃ arr p g,st = Ms κ arr p g/\r.1 = none/\arr.Perm a₀/\Runs c arr 0 p.toList a₀.size) fun (r:Option Unit × Nat) st=>∃ k',k' < k/\∃ arr p g,st = Ms κ arr p g/\r.1 = none/\arr.Perm a₀/\r.2 <= a₀.size/\Runs c arr 0 p.toList r.2/\k' = a₀.size - r.2) (Ms κ qe p g):=fun n qe n1 n2 DG R1 u=>by
   rw [hJ];lcg_src;refine wpS_bind (wpS_get ?_)
   (extract_lets +onlyGivenNames -underBinder -merge -useContext J2;clear_value (IG:J2 = _))
   have j2:∀ cA p2 g2,cA.Perm a₀->Runs c cA 0 p2.toList lo->Ups c cA lo n->wpS (model prog w) A E s (J2 ()) (CA (fun (r:Option Unit × Nat) st=>∃ arr p g,st = Ms κ arr p g/\r.1 = none/\arr.Perm a₀/\Runs c arr 0 p.toList a₀.size) fun (r:Option Unit × Nat) st=>∃ k',k' < k/\∃ arr p g,st = Ms κ arr p g/\r.1 = none/\arr.Perm a₀/\r.2 <= a₀.size/\Runs c arr 0 p.toList r.2/\k' = a₀.size - r.2) (Ms κ cA p2 g2):=fun cA p2 g2 Pn R2 u2=>by
    rw [IG];lcg_src;refine wpS_bind (wpS_modify ?_)
    (lcg_src;lcg_sub)
    refine wpS_pure ⟨_,show a₀.size - (lo + n) < k by omega,cA,p2.push (lo,n,0),g2,rfl,rfl,Pn,n2,?_,rfl⟩;rw [Array.toList_push];exact Runs.append.mpr ⟨lo,R2,rfl,by dsimp only;omega,u2,rfl⟩
   cases hb:p.back? with
   | none =>
    lcg_src;exact j2 qe p g DG R1 u
   | some x =>
    obtain ⟨s1,m1,p1⟩:=x
    (lcg_src;lcg_sub)
    have p0:0 < p.size:=by
     rcases Nat.eq_zero_or_pos p.size with z | z
     ·rw [Array.back?_eq_getElem?,Array.getElem?_eq_none (by omega)] at hb;cases hb
     ·exact z
    refine wpS_bind ?_;rw [range_list];have HU:=R1.len;rw [Array.length_toList] at HU;refine wpS_mono (Q:=fun (r:Option Unit × Unit) st=>r.1 = none/\∃ arr p g,st = Ms κ arr p g/\arr.Perm a₀/\Runs c arr 0 p.toList lo/\Ups c arr lo n)
     (cW (fun k (r:Option Unit × Unit) st=>r.1 = none/\∃ arr p g,st = Ms κ arr p g/\arr.Perm a₀/\Runs c arr 0 p.toList lo/\Ups c arr lo n/\k = p.size - 1) ?_ _ (p.size - 1) _ _ (by rw [List.length_range'];omega) ⟨rfl,qe,p,g,rfl,DG,R1,u,rfl⟩) ?_
    ·rintro _ k2 ⟨r0,_⟩ st ⟨rfl,kG,p3,g3,rfl,vL,R3,u3,ny⟩;have sz3:=vL.size_eq;lcg_src;refine wpS_bind (wpS_get ?_)
     (lcg_src;lcg_sub)
     by_cases hp:p3.size > 1
     ·rw [show (if (pendingOf (Ms κ kG p3 g3)).size > 1 then (pendingOf (Ms κ kG p3 g3))[(pendingOf (Ms κ kG p3 g3)).size - 2]? else none) = some p3[p3.size - 2] from (if_pos hp).trans (Array.getElem?_eq_getElem (show p3.size - 2 < p3.size by omega))]
      generalize p3[p3.size - 2] = y;obtain ⟨y1,y2,Xv⟩:=y;lcg_src;refine ax (fun _=>wpS_pure ⟨rfl,kG,p3,g3,rfl,vL,R3,u3⟩) fun _=>?_
      refine wpS_bind (qk L (G.perm vL) R3 (by omega) (show p3.size - 2 + 1 < p3.size by omega) fun Ja p4 g4 a1 a2 a3 a4=>?_)
      refine ax (fun z=>nomatch z) fun _=>?_
      refine wpS_pure ⟨_,show p4.size - 1 < k2 by omega,rfl,Ja,p4,g4,rfl,a1.trans vL,a3,fun i j uU hj=>?_,rfl⟩;rw [ma (a2 (lo + i) (by omega)),ma (a2 (lo + j) (by omega))];exact u3 i j uU hj
     ·rw [show (if (pendingOf (Ms κ kG p3 g3)).size > 1 then (pendingOf (Ms κ kG p3 g3))[(pendingOf (Ms κ kG p3 g3)).size - 2]? else none) = none from if_neg hp]
      lcg_src;exact wpS_pure ⟨rfl,kG,p3,g3,rfl,vL,R3,u3⟩
    ·rintro ⟨r0,_⟩ st ⟨rfl,kG,p3,g3,rfl,vL,R3,u3⟩
     (lcg_src;lcg_sub)
     refine wpS_bind (wpS_modify ?_);refine j2 kG (p3.modify (p3.size - 1) _) g3 vL (R3.third (yZ ?_)) u3;rintro ⟨x1,x2,x3⟩;exact ⟨rfl,rfl⟩
  refine ax (fun hm=>?_) fun hm=>?_
  ·refine wpS_bind (iO ?_)
   (lcg_src;lcg_sub)
   refine wpS_bind (FT L (G.perm DG) (by rw [DG.size_eq];omega) n1 (by omega) u fun cA XH u2=>?_)
   refine ax (fun z=>nomatch z) fun _=>?_
   (lcg_src;lcg_sub)
   exact j _ cA (by omega) (by omega) (XH.pm.trans DG) (R1.same fun i _ b=>XH.out i (.inl b)) u2
  ·exact j n qe n1 (by omega) DG R1 u
 ·rintro ⟨r0,lo⟩ st ⟨arr,p,g,rfl,rfl,pm,Na,R,hk⟩;dsimp only at Na R hk;exact ⟨arr,p,g,rfl,rfl,pm,by rw [show lo = a₀.size by omega] at R;exact R⟩
 rintro ⟨r0,lo⟩ st ⟨arr,p,g,rfl,rfl,pm,R⟩
 (lcg_src;lcg_sub;lcg_sub)
 refine wpS_bind ?_;rw [range_list];have HU:=R.len;rw [Array.length_toList] at HU;refine wpS_mono (Q:=fun (r:Option Unit × Unit) st=>r.1 = none/\∃ arr p g,st = Ms κ arr p g/\arr.Perm a₀/\Runs c arr 0 p.toList a₀.size/\p.size <= 1)
  (cW (fun k (r:Option Unit × Unit) st=>r.1 = none/\∃ arr p g,st = Ms κ arr p g/\arr.Perm a₀/\Runs c arr 0 p.toList a₀.size/\k = p.size - 1) ?_ _ (p.size - 1) _ _ (by rw [List.length_range'];omega) ⟨rfl,arr,p,g,rfl,pm,R,rfl⟩) ?_
 ·rintro _ k2 ⟨r0,_⟩ st ⟨rfl,kG,p3,g3,rfl,vL,R3,ny⟩
  (lcg_src;lcg_sub)
  refine wpS_bind (wpS_get ?_)
  (lcg_src;lcg_sub)
  refine ax (fun e=>wpS_pure ⟨rfl,kG,p3,g3,rfl,vL,R3,e⟩) fun e=>?_
  have e:¬ p3.size <= 1:=e
  (lcg_src;lcg_sub;lcg_sub;lcg_sub)
  refine wpS_bind (qk L (G.perm vL) R3 (by rw [vL.size_eq];exact Nat.le_refl _) ?_ fun Ja p4 g4 a1 a2 a3 a4=>?_)
  ·exact Ij (show 2 <= p3.size by omega)
  ·refine ax (fun z=>nomatch z) fun _=>?_
   exact wpS_pure ⟨_,show p4.size - 1 < k2 by omega,rfl,Ja,p4,g4,rfl,a1.trans vL,a3,rfl⟩
 ·rintro ⟨r0,_⟩ st ⟨rfl,kG,p3,g3,rfl,vL,R3,hp⟩
  (lcg_src;lcg_sub)
  refine wpS_pure (q kG p3 g3 vL ?_);have hl:p3.toList.length <= 1:=by rw [Array.length_toList];exact hp
  match sE:p3.toList,hl with
  | [],_ =>
   rw [sE] at R3;have:0 = a₀.size:=R3;omega
  | [x],_ =>
   rw [sE] at R3;obtain ⟨_,_,u,e⟩:=R3;have e:0 + x.2.1 = a₀.size:=e;rw [show x.2.1 = a₀.size by omega] at u;exact u
end
end TS
namespace L2
open PySem PySem.Spec PySem.W PyProof.Rows
variable {H H':Hp} {v:V} {u:Value}
abbrev RK:=Str × Int
variable {k a b:RK}
def eZ (a b:RK):Bool:=if a.1 = b.1 then decide (a.2 < b.2) else decide (a.1.cps.toList < b.1.cps.toList)
def KeyT (H:Hp) (v:V) (k:RK):Prop:=∃ a,v = .ref a/\H a = some (.tup [.str k.1,.int k.2])
def KeyTs (H:Hp):List V->List RK->Prop
 | [],[]=>True
 | v :: vs,k :: ks=>KeyT H v k/\KeyTs H vs ks
 | _,_=>False
theorem KeyT.same (h:KeyT H v k) (s:Same H H'):KeyT H' v k:=by
 obtain ⟨a,e,h⟩:=h;exact ⟨a,e,s a _ h⟩
theorem KeyTs.same {H H':Hp} (s:Same H H'):∀ {vs:List V} {ks:List RK},KeyTs H vs ks->KeyTs H' vs ks
 | [],[],_=>trivial
 | _ :: _,_ :: _,h=>⟨h.1.same s,h.2.same s⟩
 | [],_ :: _,h=>h.elim
 | _ :: _,[],h=>h.elim
theorem KeyTs.snoc {H:Hp}:∀ {vs:List V} {ks:List RK} {v:V} {k:RK},KeyTs H vs ks->KeyT H v k->KeyTs H (vs ++ [v]) (ks ++ [k])
 | [],[],_,_,_,h=>⟨h,trivial⟩
 | _ :: _,_ :: _,_,_,h,h'=>⟨h.1,h.2.snoc h'⟩
 | [],_ :: _,_,_,h,_=>h.elim
 | _ :: _,[],_,_,h,_=>h.elim
theorem KeyTs.len {H:Hp}:∀ {vs:List V} {ks:List RK},KeyTs H vs ks->vs.length = ks.length
 | [],[],_=>rfl
 | _ :: _,_ :: _,h=>by rw [List.length_cons,List.length_cons,h.2.len]
 | [],_ :: _,h=>h.elim
 | _ :: _,[],h=>h.elim
theorem KeyTs.at_ {H:Hp}:∀ {vs:List V} {ks:List RK} {us:List Value} {i:Nat},KeyTs H vs ks->Vals vs us->(hi:i < ks.length)->∃ v,RelV v (us.getD i Value.none)/\KeyT H v (ks.getD i (⟨#[]⟩,0))
 | v :: vs,k :: ks,us,0,h,r,_=>by
  cases r with
  | cons r1 r2=>exact ⟨v,r1,h.1⟩
 | v :: vs,k :: ks,us,i + 1,h,r,hi=>by
  cases r with
  | cons r1 r2 =>
   obtain ⟨v',a,b⟩:=KeyTs.at_ (i:=i) h.2 r2 (by rw [List.length_cons] at hi;omega);exact ⟨v',by rw [List.getD_cons_succ];exact a,by rw [List.getD_cons_succ];exact b⟩
 | [],_ :: _,_,_,h,_,_=>h.elim
 | _ :: _,[],_,_,h,_,_=>h.elim
 | [],[],_,_,_,_,hi=>absurd hi (Nat.not_lt_zero _)
section
variable {X:Cx} {pins:List (Addr × Obj)} {σ:St} {s:Shared} {A:Around} {E:Value->Shared->Prop}
theorem sy (I:Inv X pins σ H s) (h:KeyT H v k) (r:RelV v u):∃ a o t t' n,u = .ref a/\s.heap.get? a = some o/\o.cls = .type "tuple"/\o.data = .seq #[.str k.1 t,.int k.2 t'] n:=by
 obtain ⟨a,rfl,ha⟩:=h;obtain rfl:u = Value.ref a:=r;obtain ⟨its,rv,p,_⟩:=I.tuple (SqT.of ha)
 cases rv with
 | cons r1 rr =>
  cases rr with
  | cons r2 rr =>
   cases rr
   obtain ⟨t,rfl⟩:=r1;obtain ⟨t',rfl⟩:=r2;obtain ⟨o,ho,hc,n,hd⟩:=(show s.heap.IsTuple a _ from p);exact ⟨a,o,t,t',n,rfl,ho,hc,hd⟩
theorem I0 (I : Inv X pins σ H s) {v' : V} {u' : Value} {k' : RK} (h : KeyT H v k) (h' : KeyT H v' k') (r : RelV v u) (r' : RelV v' u') {C : Bool -> Shared -> Prop} (q : C (eZ k k') s) :
    wpAny (model X.prog X.w) A (keyLt' (tuples' true) u u') C E s:=by
 obtain ⟨a,o,t1,t2,n,rfl,ho,_,hd⟩:=sy I h r;obtain ⟨b,o',t3,t4,n',rfl,uQ,_,BZ⟩:=sy I h' r';unfold eZ at q;refine kat_lt ho hd uQ BZ (kat_cons (wpAny_eqBool_str (kat_go (fun e=>kat_yes (kat_cons (wpAny_eqBool_int (kat_go (fun e2=>kat_yes (kat_nil ?_)) (fun e2=>kat_no (kat_one _ _ (lt_int ?_))))))) (fun e=>kat_no (oneLt_str ?_)))))
 ·have e1:=of_decide_eq_true e;have e2:=eq_of_beq e2;rw [if_pos e1,e2,decide_eq_false (Int.lt_irrefl _)] at q;exact q
 ·have e1:=of_decide_eq_true e;rw [if_pos e1] at q;exact q
 ·have e1:=of_decide_eq_false e;rw [if_neg e1] at q;exact q
theorem uO (I:Inv X pins σ H s):∀ {vs:List V} {ks:List RK} {us:List Value},KeyTs H vs ks->Vals vs us->∃ fs:List Value,KatTups s.heap us fs/\fs.length = ks.length/\∀ f ∈ fs,∃ z t,f = .str z t
 | [],[],us,_,r=>by cases r;exact ⟨[],trivial,rfl,fun _ h=>by cases h⟩
 | v :: vs,k :: ks,us,h,r=>by
  cases r with
  | cons r1 r2 =>
   obtain ⟨fs,a1,a2,a3⟩:=uO I h.2 r2;obtain ⟨a,o,t,t',n,rfl,ho,hc,hd⟩:=sy I h.1 r1;refine ⟨.str k.1 t :: fs,KatTups.cons ho hc hd rfl a1,by rw [List.length_cons,List.length_cons,a2],fun f hf=>?_⟩
   rcases List.mem_cons.mp hf with rfl | hf
   ·exact ⟨_,_,rfl⟩
   ·exact a3 f hf
 | [],_ :: _,_,h,_=>h.elim
 | _ :: _,[],_,h,_=>h.elim
theorem Cy (I:Inv X pins σ H s) {vs:List V} {ks:List RK} {us:List Value} (h:KeyTs H vs ks) (r:Vals vs us) (h0:0 < ks.length) {Q:SortKind->Shared->Prop} (q:Q (tuples' true) s):wpAny (model X.prog X.w) A (keyKind' us.toArray) Q E s:=by
 obtain ⟨fs,a1,a2,a3⟩:=uO I h r;refine kat_kind (T:=.type "str") a1 (by omega) (fun f hf=>?_) rfl q
 obtain ⟨z,t,rfl⟩:=a3 f hf;exact .now
end
theorem HR (a:Str):¬ a.cps.toList < a.cps.toList:=List.lt_irrefl _
theorem oB {c:RK} (h1:eZ a b = true) (h2:eZ b c = true):eZ a c = true:=by
 unfold eZ at *
 by_cases e1:a.1 = b.1
 ·rw [if_pos e1] at h1
  by_cases e2:b.1 = c.1
  ·rw [if_pos e2] at h2;rw [if_pos (e1.trans e2)];have h1:=of_decide_eq_true h1;have h2:=of_decide_eq_true h2;exact decide_eq_true (by omega)
  ·rw [if_neg e2] at h2;rw [if_neg (by rw [e1];exact e2),e1];exact h2
 ·rw [if_neg e1] at h1
  by_cases e2:b.1 = c.1
  ·rw [if_neg (by rw [<- e2];exact e1),<- e2];exact h1
  ·rw [if_neg e2] at h2;have h1:=of_decide_eq_true h1;have h2:=of_decide_eq_true h2;have h3:=List.lt_trans h1 h2;have e3:a.1 ≠ c.1:=fun z=>by rw [z] at h1;exact absurd (List.lt_trans h1 h2) (HR _)
   rw [if_neg e3];exact decide_eq_true h3
theorem Bv (a:RK):eZ a a = false:=by
 unfold eZ;rw [if_pos rfl];exact decide_eq_false (by omega)
theorem Bw (h:eZ a b = true):eZ b a = false:=by
 cases e:eZ b a with
 | false=>rfl
 | true=>have:=oB h e;rw [Bv] at this;cases this
theorem Bu (hne:a ≠ b) (h:eZ a b = false):eZ b a = true:=by
 unfold eZ at *
 by_cases e:a.1 = b.1
 ·rw [if_pos e] at h;rw [if_pos e.symm];have h:=of_decide_eq_false h;have:a.2 ≠ b.2:=fun z=>hne (Prod.ext e z)
  exact decide_eq_true (by omega)
 ·rw [if_neg e] at h;rw [if_neg (Ne.symm e)];have h:=of_decide_eq_false h;have h2:b.1.cps.toList <= a.1.cps.toList:=List.not_lt.mp h;refine decide_eq_true ?_
  by_cases z:b.1.cps.toList < a.1.cps.toList
  ·exact z
  ·have h3:a.1.cps.toList <= b.1.cps.toList:=List.not_lt.mp z;exact absurd (aV (List.le_antisymm h3 h2)) e
section
variable {X:Cx} {pins:List (Addr × Obj)} {σ:St} {s:Shared} {A:Around} {E:Value->Shared->Prop}
theorem Inv.adopt {h' : Heap} {D : Addr} {xs : List V} {t' : Nat} (I : Inv X pins σ H s) (f : FpOk X pins H D) (k : ∀ b o, b ≠ D -> s.heap.get? b = some o -> h'.get? b = some o) (new : ObjOk X.prog X.w (upd H D (.lst xs)) h' D (.lst xs)) :
    Inv X pins σ (upd H D (.lst xs)) { s with heap:=h',toks:=t' }:=by
 obtain ⟨f0,f1,f2,f3,f4,f5⟩:=f;have nn:∀ b u,H b = some u->b ≠ D:=fun b u e z=>by rw [z,f0] at e;cases e
 have nc:∀ b,b ∉ [D]->b ≠ D:=fun b hb z=>hb (by rw [z];exact List.mem_singleton.mpr rfl)
 refine I.step (g':=s.gens) (d':=s.drawn) (ch:=[D]) (fun b hb=>?_) (fun b o _ _ hc e _=>k b o (nc b hc) e) (fun b o _ _ hc e _=>⟨o.slots,k b o (nc b hc) e⟩) (fun b o hc e q=>by rw [ay (nc b hc)];exact q)
  (fun b o hc e=>⟨o,k b o (nc b hc) e⟩) (fun b xs e=>by rw [ay (nn b _ e)];exact e) (fun b o u e=>by rw [ay (nn b _ e)];exact e) (fun b ps e=>⟨#[],by rw [ay (nn b _ e),e];simp⟩) (fun m hm=>?_) (fun b u e=>?_) I.bare
 ·rw [List.mem_singleton.mp hb];exact ⟨f3,f1,f4,f5⟩
 ·obtain ⟨o,es,ep,ho,r⟩:=hm;exact ⟨o,es,ep,k _ o (Ne.symm f1) ho,r⟩
 ·by_cases hb:b = D
  ·subst hb;rw [aC] at e
   cases e
   exact new
  ·rw [ay hb] at e;refine (I.hok b u e).stay (fun c v hc q=>k c v ?_ q) (fun c q=>by rw [ay (nn c _ q)];exact q) fun c xs q=>by rw [ay (nn c _ q)];exact q
   rcases hc with z | z
   ·rw [z];exact nn b u e
   ·exact nn c _ z
theorem FpOk.stack {b:Addr} (I:Inv X pins σ H s) (f:FpOk X pins H b):b ∉ ti X.stack:=fun z=>by
 rcases List.mem_cons.mp (I.stkSub b z) with z | z
 ·exact f.2.1 z
 ·exact f.2.2.1 z
theorem FpOk.at_ {b:Addr} (f:FpOk X pins H b) (n:H' b = none):FpOk X pins H' b:=⟨n,f.2⟩
structure SK (X:Cx) (pins:List (Addr × Obj)) (σ:St) (H:Hp) (D kS:Addr) (e1:Nat) (ks:List Value) (rk:List RK) (Hi:Hp) (s:Shared):Prop where
 I:Inv X pins σ Hi s
 sm:Same H Hi
 fk:FpOk X pins Hi kS
 fD:FpOk X pins Hi D
 ok:∃ e,s.heap.get? kS = some (seqObj "list" ks.toArray e)
 oD:s.heap.get? D = some (seqObj "list" #[] e1)
 ne:D ≠ kS
 kt:∃ az,Vals az ks/\KeyTs Hi az rk
variable {kf:V->RK} {fv:Value} {D kS:Addr} {e1:Nat}
def xi (X:Cx) (A:Around) (fv:Value) (H:Hp) (kf:V->RK) (x:V):Prop:=∀ (s:Shared) (Hi:Hp) (u:Value),qi X.prog X.w X.K X.mg X.base A X.stack s Hi->X.K.In s.heap->Same H Hi->RelV x u ->
 wpAny (model X.prog X.w) A (call fv [u]) (fun v s'=>CE X.stack X.prog X.w Hi s (fun v H2=>∃ a,v = .ref a/\Same Hi H2/\H2 a = some (.tup [.str (kf x).1,.int (kf x).2])) v s') (fun _ _=>False) s
theorem BC (hA : A.frames = X.A.frames) {ks : List Value} {rk : List RK} {Hi : Hp} {xv : V} (S : SK X pins σ H D kS e1 ks rk Hi s) (hk : xi X A fv H kf xv) (ru : RelV xv u)
    (hz:ks.length < 100000) {R:Shared->Prop} (q:∀ kv Jj Hj s',Jj = ks ++ [kv]->SK X pins σ H D kS e1 Jj (rk ++ [kf xv]) Hj s'->R s') :
    wpAny (model X.prog X.w) A (call fv [u]) (fun v s1=>wpAny (model X.prog X.w) A (Builtin.List.listUpdate (.ref kS) (·.push v)) (fun _ s2=>R s2) E s1) (fun _ _=>False) s:=by
 have e0:qi X.prog X.w X.K X.mg X.base A X.stack s Hi:=⟨hA.trans S.I.ok.frames,S.I.env0.mod,S.I.env0.bs,S.I.env0.bsz,S.I.env0.funs,S.I.env0.frf,S.I.env0.hok,S.I.env0.bare⟩;refine wpAny_mono (hk s Hi u e0 S.I.kIn S.sm ru) (fun v s' hq=>?_) fun _ _ z=>z
 obtain ⟨kvv,Hj,os,bare,un,hok,rk1,a,rfl,sj,hj⟩:=hq;obtain rfl:v = Value.ref a:=rk1;have I2:Inv X pins σ Hj s':=S.I.call' os un hok bare (ch:=[]) (fun b z=>absurd z (by simp))
 obtain ⟨e,ok⟩:=S.ok;have gk:=un.keep kS _ ok S.fk.1 (S.fk.stack S.I) (by simp);have gD:=un.keep D _ S.oD S.fD.1 (S.fD.stack S.I) (by simp);have nk:=un.free kS _ ok S.fk.1 (by simp);have nD:=un.free D _ S.oD S.fD.1 (by simp);refine listUpdate_at gk rfl ?_ (by rw [List.size_toArray,sizeLine_eq];omega) (by rw [Array.size_push,List.size_toArray,sizeLine_eq];omega);have ep:(ks.toArray).push (.ref a) = (ks ++ [Value.ref a]).toArray:=by simp
 have Jw:=get?_update_seq gk (·.push (Value.ref a));rw [ep] at Jw;obtain ⟨_,g1,g2,g3,g4,g5⟩:=S.fk;obtain ⟨az,rv2,kt⟩:=S.kt;refine q (.ref a) _ Hj { s' with heap:=s'.heap.update kS (Obj.mapSeq (·.push (Value.ref a))) } rfl ⟨?_,fun b o e=>sj b o (S.sm b o e),(S.fk.at_ nk),(S.fD.at_ nD),⟨_,Jw⟩,?_,S.ne,⟨az ++ [.ref a],rv2.append (.cons (show RelV (V.ref a) (Value.ref a) from rfl) .nil),(kt.same sj).snoc ⟨a,rfl,hj⟩⟩⟩
 ·exact I2.turned (t':=s'.toks) (it:=kS) (fun b o hb e=>by rw [Heap.get?_update_other _ _ (Ne.symm hb)];exact e) nk g1 g3 g4 g5
 ·rw [Heap.get?_update_other _ _ (Ne.symm S.ne)];exact gD
end
end L2
namespace L2
open PySem PySem.Spec PySem.W PyProof.Rows TS
variable {X:Cx} {kf:V->RK} {ks us:List Value} {Hi:Hp} {α β:Type} {xs:List V}
section
variable {pins:List (Addr × Obj)} {σ:St} {H:Hp} {s:Shared} {A:Around} {E:Value->Shared->Prop}
variable {fv:Value} {D kS:Addr} {e1:Nat}
theorem qJ (hA : A.frames = X.A.frames) {body : Value -> PUnit -> Sem (ForInStep PUnit)}
    (hb:∀ u (s:Shared) (R:Shared->Prop),wpAny (model X.prog X.w) A (call fv [u]) (fun v s1=>wpAny (model X.prog X.w) A (Builtin.List.listUpdate (.ref kS) (·.push v)) (fun _ s2=>R s2) E s1) (fun _ _=>False) s->wpAny (model X.prog X.w) A (body u ⟨⟩) (fun r s'=>r = .yield ⟨⟩/\R s') E s) :
    ∀ {xs:List V} {us ks:List Value} {rk:List RK} {Hi:Hp} {s:Shared},Vals xs us->(∀ y ∈ xs,xi X A fv H kf y)->ks.length + us.length < 100000->SK X pins σ H D kS e1 ks rk Hi s ->
     wpAny (model X.prog X.w) A (forIn us PUnit.unit body) (fun _ s'=>∃ Jj Hj,SK X pins σ H D kS e1 Jj (rk ++ xs.map kf) Hj s'/\Jj.length = ks.length + us.length) E s
 | [],us,ks,rk,Hi,s,r,_,_,S=>by
  cases r
  rw [List.forIn_nil];exact wpAny_pure ⟨ks,Hi,by rw [List.map_nil,List.append_nil];exact S,rfl⟩
 | y :: xs,us,ks,rk,Hi,s,r,hk,hz,S=>by
  cases r with
  | @cons _ u _ us r1 r2 =>
   rw [List.length_cons] at hz;rw [List.forIn_cons];refine wpAny_bind (wpAny_mono (hb u s (fun s'=>∃ kv Hj,SK X pins σ H D kS e1 (ks ++ [kv]) (rk ++ [kf y]) Hj s') (BC hA S (hk y List.mem_cons_self) r1 (by omega) fun kv Jj Hj s' e S'=>⟨kv,Hj,e ▸ S'⟩)) (fun r s' hq=>?_) fun _ _ z=>z)
   obtain ⟨rfl,kv,Hj,S'⟩:=hq;refine wpAny_mono (qJ hA hb r2 (fun z SF=>hk z (List.mem_cons_of_mem _ SF)) (by rw [List.length_append,List.length_singleton];omega) S') (fun _ s2 ⟨ks2,Hk,S2,l2⟩=>⟨ks2,Hk,?_,?_⟩) fun _ _ z=>z
   ·rw [List.map_cons,<- List.singleton_append,<- List.append_assoc];exact S2
   ·rw [l2,List.length_append,List.length_singleton,List.length_cons];omega
theorem qv {st : SortSt} {out : List Value} {xs' : List V} {rk : List RK} (zd : (arrOf st).map (·.2) = out.toArray) (hz : out.length < 100000) (Jq : ks.length < 100000) (hf : failedOf st = none) (S : SK X pins σ H D kS e1 ks rk Hi s) (rv : Vals xs' out)
    {R:PySem.Fin->Shared->Prop} (q:∀ s' H1,Inv X pins σ H1 s'->Same H H1->H1 D = some (.lst xs')->R (.done (.ret .none)) s'):wpAny (model X.prog X.w) A (ksk_tail D false e1 (.ref kS) st) R E s:=by
 obtain ⟨e,ok⟩:=S.ok;obtain ⟨_,g1,g2,g3,g4,g5⟩:=S.fk;unfold ksk_tail;dsimp only;rw [zd];refine wpAny_bind (listUpdate_at ok rfl ?_ (by rw [List.size_toArray,sizeLine_eq];omega) (Nat.zero_le _));have I2:Inv X pins σ Hi { s with heap:=s.heap.update kS (Obj.mapSeq fun _=>#[]) }:=S.I.turned (t':=s.toks) (it:=kS) (fun b o hb e=>by rw [Heap.get?_update_other _ _ (Ne.symm hb)];exact e) S.fk.1 g1 g3 g4 g5
 have gD:(s.heap.update kS (Obj.mapSeq fun _=>#[])).get? D = some (seqObj "list" #[] e1):=by rw [Heap.get?_update_other _ _ (Ne.symm S.ne)];exact S.oD
 refine wpAny_bind (wpAny_letGo (wpAny_bind (seqEpoch_at gD rfl ?_)));refine wpAny_bind (listUpdate_at gD rfl ?_ (Nat.zero_le _) (by show out.toArray.size <= _;rw [List.size_toArray,sizeLine_eq];omega));rw [hf];simp only [bne_self_eq_false,Bool.false_eq_true,if_false];have gE:=get?_update_seq gD fun _=>out.toArray
 have I3:Inv X pins σ (upd Hi D (.lst xs')) { s with heap:=(s.heap.update kS (Obj.mapSeq fun _=>#[])).update D (Obj.mapSeq fun _=>out.toArray) } :=
  I2.adopt (t':=s.toks) S.fD (fun b o hb e=>by rw [Heap.get?_update_other _ _ (Ne.symm hb)];exact e) ⟨by rw [rv.length,sizeLine_eq];omega,out,_,rv,gE⟩
 refine wpAny_pure (q _ _ I3 (fun b o e=>?_) aC);have h1:=S.sm b o e;rw [ay (fun z=>by rw [z,S.fD.1] at h1;cases h1)];exact h1
def mL (Hi:Hp) (x:Keyed):RK:=match x.1 with
 | .ref a=>match Hi a with
  | some (.tup [.str k1,.int k2])=>(k1,k2)
  | _=>(⟨#[]⟩,0)
 | _=>(⟨#[]⟩,0)
theorem nh {v:V} {u i:Value} {k:RK} (h:KeyT Hi v k) (r:RelV v u):mL Hi (u,i) = k:=by
 obtain ⟨a,rfl,ha⟩:=h;obtain rfl:u = Value.ref a:=r;unfold mL;dsimp only;rw [ha]
theorem vP {Hi:Hp}:∀ {vs:List V} {rk:List RK} {ks us:List Value},KeyTs Hi vs rk->Vals vs ks->ks.length = us.length->(ks.zip us).map (mL Hi) = rk
 | [],[],ks,us,_,r,_=>by cases r;rfl
 | v :: vs,k :: rk,ks,us,h,r,hl=>by
  cases r with
  | @cons _ u _ ks r1 r2 =>
   cases us with
   | nil=>simp at hl
   | cons i us =>
    rw [List.zip_cons_cons,List.map_cons,nh h.1 r1,vP h.2 r2 (by simpa using hl)]
 | [],_ :: _,_,_,h,_,_=>h.elim
 | _ :: _,[],_,_,h,_,_=>h.elim
theorem rl {Hi:Hp}:∀ {vs:List V} {rk:List RK} {ks us:List Value} {x:Keyed},KeyTs Hi vs rk->Vals vs ks->x ∈ ks.zip us->∃ v k,KeyT Hi v k/\RelV v x.1
 | [],[],ks,us,x,_,r,hx=>by cases r;simp at hx
 | v :: vs,k :: rk,ks,us,x,h,r,hx=>by
  cases r with
  | @cons _ u _ ks r1 r2 =>
   cases us with
   | nil=>simp at hx
   | cons i us =>
    rw [List.zip_cons_cons] at hx
    rcases List.mem_cons.mp hx with rfl | hx
    ·exact ⟨v,k,h.1,r1⟩
    ·exact rl h.2 r2 hx
 | [],_ :: _,_,_,_,h,_,_=>h.elim
 | _ :: _,[],_,_,_,h,_,_=>h.elim
theorem iB {α β:Type} {f:α->β}:∀ {l:List α},(l.map f).Nodup->∀ {x y:α},x ∈ l->y ∈ l->f x = f y->x = y
 | a :: l,nd,x,y,hx,hy,e=>by
  rw [List.map_cons,List.nodup_cons] at nd
  rcases List.mem_cons.mp hx with h1 | h1 <;> rcases List.mem_cons.mp hy with h2 | h2
  ·rw [h1,h2]
  ·exact absurd (by rw [<- h1,e];exact List.mem_map.mpr ⟨y,h2,rfl⟩) nd.1
  ·exact absurd (by rw [<- h2,<- e];exact List.mem_map.mpr ⟨x,h1,rfl⟩) nd.1
  ·exact iB nd.2 h1 h2 e
theorem eO {α β:Type} {f:α->β}:∀ {l:List α},(l.map f).Nodup->l.Nodup
 | [],_=>List.nodup_nil
 | a :: l,nd=>by
  rw [List.map_cons,List.nodup_cons] at nd;exact List.nodup_cons.mpr ⟨fun h=>nd.1 (List.mem_map.mpr ⟨a,h,rfl⟩),eO nd.2⟩
theorem perm_lift {f:α->β} {l m:List β} (h:l.Perm m):∀ L:List α,m = L.map f->∃ L':List α,L'.Perm L/\l = L'.map f:=by
 induction h with
 | nil=>exact fun L e=>⟨[],by cases L with | nil=>exact .nil | cons _ _=>simp at e,rfl⟩
 | cons x p ih =>
  intro L e
  cases L with
  | nil=>simp at e
  | cons a L =>
   rw [List.map_cons,List.cons.injEq] at e;obtain ⟨L',h1,h2⟩:=ih L e.2;exact ⟨a :: L',h1.cons a,by rw [List.map_cons,<- h2,e.1]⟩
 | swap x y l =>
  intro L e
  match L,e with
  | a :: b :: L,e =>
   simp only [List.map_cons,List.cons.injEq] at e;exact ⟨b :: a :: L,List.Perm.swap a b L,by simp only [List.map_cons,List.cons.injEq];exact ⟨e.2.1,e.1,e.2.2⟩⟩
 | trans p q ih1 ih2 =>
  intro L e;obtain ⟨L1,h1,h2⟩:=ih2 L e;obtain ⟨L2,h3,h4⟩:=ih1 L1 h2;exact ⟨L2,h3.trans h1,h4⟩
theorem Jz {Hi:Hp} {kf:V->RK}:∀ {xs az:List V} {ks us:List Value},Vals xs us->KeyTs Hi az (xs.map kf)->Vals az ks->∃ L:List (Keyed × V),L.map (·.1) = ks.zip us/\L.map (·.2) = xs/\∀ t ∈ L,RelV t.2 t.1.2/\mL Hi t.1 = kf t.2
 | [],[],ks,us,r,_,r2=>by
  cases r;cases r2
  exact ⟨[],rfl,rfl,fun t h=>absurd h (by simp)⟩
 | x :: xs,v :: az,ks,us,r,h,r2=>by
  cases r with
  | @cons _ u _ us a1 a2 =>
   cases r2 with
   | @cons _ k _ ks b1 b2 =>
    obtain ⟨L,h1,h2,h3⟩:=Jz a2 h.2 b2;refine ⟨((k,u),x) :: L,by rw [List.map_cons,h1,List.zip_cons_cons],by rw [List.map_cons,h2],fun t ht=>?_⟩
    rcases List.mem_cons.mp ht with rfl | ht
    ·exact ⟨a1,nh h.1 b1⟩
    ·exact h3 t ht
 | [],_ :: _,_,_,_,h,_=>h.elim
 | _ :: _,[],_,_,_,h,_=>h.elim
theorem tq {α:Type} {f:α->V} {g:α->Value}:∀ {l:List α},(∀ t ∈ l,RelV (f t) (g t))->Vals (l.map f) (l.map g)
 | [],_=>.nil
 | a :: l,h=>.cons (h a List.mem_cons_self) (tq fun t ht=>h t (List.mem_cons_of_mem _ ht))
def jT (kf:V->RK) (xs:List V):Prop:=xs.Pairwise fun a b=>eZ (kf a) (kf b) = true
theorem IL {az : List V} {rk : List RK} (I : Inv X pins σ Hi s) (kt : KeyTs Hi az rk) (rv : Vals az ks) (hl : ks.length = us.length) (nd : rk.Nodup) :
    sY X.prog X.w A s (tuples' true) (fun x=>x ∈ ks.zip us) (fun x y=>eZ (mL Hi x) (mL Hi y)) where
 ask:=fun x y hx hy C q=>by
  obtain ⟨v,k,h1,r1⟩:=rl kt rv hx;obtain ⟨v',k',h2,r2⟩:=rl kt rv hy;refine I0 I h1 h2 r1 r2 ?_;rw [show mL Hi x = k from nh (i:=x.2) h1 r1,show mL Hi y = k' from nh (i:=y.2) h2 r2] at q;exact q
 tot:=fun x y hx hy ne e=>Bu (fun z=>ne (iB (by rw [vP kt rv hl];exact nd) hx hy z)) e
 YE:=fun x y _ _ e=>Bw e
 trans:=fun x y z _ _ _ e1 e2=>oB e1 e2
theorem Aq (S : SK X pins σ H D kS e1 ks (xs.map kf) Hi s) (r : Vals xs us) (hl : ks.length = us.length) (hz : us.length < 100000) (nd : (xs.map kf).Nodup)
    {R:PySem.Fin->Shared->Prop} (q:∀ xs' s' H1,xs'.Perm xs->jT kf xs'->Inv X pins σ H1 s'->Same H H1->H1 D = some (.lst xs')->R (.done (.ret .none)) s'):wpAny (model X.prog X.w) A (ksk_end D false us.toArray e1 (.ref kS) ks.toArray) R E s:=by
 have hx:=r.length;unfold ksk_end;dsimp only;simp only [Bool.false_eq_true,if_false]
 by_cases h2:us.toArray.size < 2
 ·rw [if_pos h2,if_pos h2];refine wpAny_bind (wpAny_pure (wpAny_bind (wpAny_pure ?_)));dsimp only;rw [List.size_toArray] at h2;refine qv (out:=us) (xs':=xs) ?_ hz (by omega) rfl S r fun s' H1 a b c=>q xs s' H1 (List.Perm.refl _) ?_ a b c
  ·show ((ks.toArray).zip us.toArray).map (·.2) = us.toArray;apply Array.toList_inj.mp;simp [List.map_snd_zip,hl]
  ·unfold jT
   match xs,hx with
   | [],_=>exact List.Pairwise.nil
   | [a],_=>exact List.pairwise_singleton _ _
   | a :: b :: l,hx=>rw [List.length_cons,List.length_cons] at hx;omega
 ·rw [if_neg h2,if_neg h2];rw [List.size_toArray] at h2;obtain ⟨az,rv,kt⟩:=S.kt;have pZ:(xs.map kf).length = us.length:=by rw [List.length_map,hx]
  refine wpAny_bind (Cy S.I kt rv (by omega) ?_);have ez:((ks.toArray).zip us.toArray).toList = ks.zip us:=by simp
  have CP:((ks.toArray).zip us.toArray).size = us.length:=by simp [hl]
  have C:=IL (A:=A) (us:=us) S.I kt rv hl nd;have G:Gd (fun x=>x ∈ ks.zip us) ((ks.toArray).zip us.toArray):=⟨fun x hx=>by rw [ez] at hx;exact hx,by rw [ez];exact eO (f:=mL Hi) (by rw [vP kt rv hl];exact nd)⟩
  refine wpAny_bind (wpAny_mono (show wpAny (model X.prog X.w) A (sortRuns'.run (SortSt.mk' (tuples' true) ((ks.toArray).zip us.toArray) #[] 7 none)) _ E s from xp (E:=E) C G (by omega) (g:=7) (Q:=fun _ st=>∃ arr p g,st = Ms (tuples' true) arr p g/\arr.Perm ((ks.toArray).zip us.toArray)/\Ups (fun x y=>eZ (mL Hi x) (mL Hi y)) arr 0 us.length) fun arr p g a1 a2=>⟨arr,p,g,rfl,a1,by rw [CP] at a2;exact a2⟩) ?_ fun _ _ z=>z)
  rintro ⟨⟨⟩,st⟩ s' ⟨rfl,arr,p,g,e,pm,up⟩;dsimp only at e;subst e;dsimp only;have Kd:=Array.perm_iff_toList_perm.mp pm;rw [ez] at Kd;obtain ⟨L,l1,l2,l3⟩:=Jz r kt rv;obtain ⟨L',p1,p2⟩:=perm_lift Kd L l1.symm;have Ia:∀ t ∈ L',RelV t.2 t.1.2/\mL Hi t.1 = kf t.2:=fun t ht=>l3 t (p1.mem_iff.mp ht)
  have zd:(arrOf (Ms (tuples' true) arr p g)).map (·.2) = (L'.map fun t=>t.1.2).toArray:=by
   apply Array.toList_inj.mp;rw [Array.toList_map];show arr.toList.map (·.2) = _;rw [p2,List.map_map]
   rfl
  have len:L'.length = us.length:=by
   have:=congrArg List.length p2;rw [List.length_map,Array.length_toList,pm.size_eq,CP] at this;exact this.symm
  refine qv (out:=L'.map fun t=>t.1.2) (xs':=L'.map (·.2)) zd (by rw [List.length_map];omega) (by omega) rfl S (tq fun t ht=>(Ia t ht).1) fun s' H1 a b c=>q _ s' H1 ?_ ?_ a b c
  ·rw [<- l2];exact p1.map _
  ·unfold jT;rw [List.pairwise_map];have sz:0 + us.length <= arr.size:=by rw [pm.size_eq,CP];omega
   have:=up.srt sz;rw [List.drop_zero,List.take_of_length_le (by rw [Array.length_toList,pm.size_eq,CP];exact Nat.le_refl _),p2] at this;have:=List.pairwise_map.mp this;exact this.imp_of_mem fun {a b} ha hb h=>by
    dsimp only at h;rw [(Ia a ha).2,(Ia b hb).2] at h;exact h
end
section
variable {pins:List (Addr × Obj)} {σ:St} {H:Hp} {s:Shared} {A:Around} {E:Value->Shared->Prop}
variable {fv:Value} {D kS:Addr} {e1:Nat}
theorem yr (hA : A.frames = X.A.frames) (S : SK X pins σ H D kS e1 [] [] H s) (r : Vals xs us) (hk : ∀ y ∈ xs, xi X A fv H kf y) (hz : us.length < 100000) (nd : (xs.map kf).Nodup)
    {R:PySem.Fin->Shared->Prop} (q:∀ xs' s' H1,xs'.Perm xs->jT kf xs'->Inv X pins σ H1 s'->Same H H1->H1 D = some (.lst xs')->R (.done (.ret .none)) s'):wpAny (model X.prog X.w) A (ksk_rest D fv false us.toArray e1 (.ref kS)) R E s:=by
 unfold ksk_rest;refine wpAny_bind (wpAny_rule ?_);rw [List.forIn_toArray];refine wpAny_bind (wpAny_mono (qJ (E:=E) hA (fun u s R h=>?_) r hk (by simpa using hz) S) (fun _ s' hq=>?_) fun _ _ z=>z)
 ·refine wpAny_bind (wpAny_attempt (wpAny_mono h (fun v s1 h1=>?_) fun _ _ z=>z.elim))
  exact wpAny_bind (wpAny_mono h1 (fun _ s2 h2=>wpAny_pure ⟨rfl,h2⟩) fun _ _ z=>z)
 ·obtain ⟨ks,Hj,S',hl⟩:=hq;obtain ⟨e,ok⟩:=S'.ok;refine wpAny_bind (listItems_at ok rfl ?_);refine Aq S' r (by simpa using hl) hz nd fun xs' s' H1 a b c d f=>q xs' s' H1 a b c d f
theorem yq {p : Addr} {kw : List (Str × Value)} (I : Inv X pins σ H s) (r : Vals xs us) (hp : s.heap.IsList p us.toArray) (hk : ∀ y ∈ xs, xi X X.A.in1.in1 fv H kf y) (hz : xs.length < 100000) (nd : (xs.map kf).Nodup)
    (vN:argsOk "sorted" { pos:=[.ref p],kw:=kw }) (wX:∀ x:Addr,argsOk "list.sort" { pos:=[.ref x],kw:=kw }) (ht:∀ x:Addr,Builtin.«list.sort» { pos:=[.ref x],kw:=kw } = ksk_tree x fv false) {Q:VK}
    (q:∀ xs' l H1,xs'.Perm xs->jT kf xs'->H l = none->Same H H1->H1 l = some (.lst xs')->Q (.ref l) H1) :
    wpAny (model X.prog X.w) X.A (call (.builtin "sorted") [.ref p] kw) (EP X pins σ Q) E s:=by
 have hz:us.length < 100000:=by rw [<- r.length];exact hz
 have hl:=sizeLine_eq;refine call_function_entry_kw kind_sorted plain_sorted entry_sorted vN ?_;show wpAny _ _ (checkCount "sorted" 1 1 1 >>= _) _ _ _;refine wpAny_bind (wpAny_pure ?_);refine wpAny_bind (collect_list hp ?_ (by omega));refine wpAny_bind (wpAny_newList ?_ (by omega));generalize Nc:(s.heap.push (seqObj "list" #[] 0)).update s.heap.objs.size (Obj.mapSeq fun x=>x ++ us.toArray) = h1
 have k1:∀ b u,s.heap.get? b = some u->h1.get? b = some u:=fun b u e=>by
  rw [<- Nc,Heap.get?_update_other _ _ (Nat.ne_of_gt (Heap.lt_size e))];exact Heap.get?_push_of_some _ e
 have z1:h1.objs.size = s.heap.objs.size + 1:=by rw [<- Nc,Heap.size_update,size_push']
 dsimp only;obtain ⟨D,hD⟩:∃ D,h1.objs.size = D:=⟨_,rfl⟩
 rw [hD];have gD:(h1.push ⟨.type "list",none,.seq us.toArray 0,#[]⟩).get? D = some (seqObj "list" us.toArray 0):=by
  rw [<- hD];exact Heap.get?_push_size _ rfl
 refine wpAny_bind (wpAny_holding (wpAny_call_entry_kw slot_list_sort ⟨_,gD,rfl⟩ entry_list_sort ?_ (wX D)));rw [ht];unfold ksk_tree;refine wpAny_bind (listItems_at gD rfl ?_);refine wpAny_bind (listUpdate_at gD rfl ?_ (by rw [List.size_toArray];omega) (Nat.zero_le _));have TN:=get?_update_seq gD fun _=>#[]
 refine wpAny_bind (seqEpoch_at TN rfl ?_);generalize (if ((#[]:Array Value).size == us.toArray.size) = true then 0 else 0 + 1) = e1 at TN
 refine wpAny_bind (wpAny_newTuple ?_ (by simp;omega));refine wpAny_bind (wpAny_newList ?_ (Nat.zero_le _));refine wpAny_holding ?_;have Ni:s.heap.objs.size < D:=by rw [<- hD,z1];exact Nat.lt_succ_self _
 have gD3:∀ o1 o2,(((((h1.push ⟨.type "list",none,.seq us.toArray 0,#[]⟩).update D (Obj.mapSeq fun _=>#[])).push o1).push o2).get? D) = some (seqObj "list" #[] e1):=fun o1 o2=>Heap.get?_push_of_some _ (Heap.get?_push_of_some _ TN)
 have k5:∀ o1 o2 b u,s.heap.get? b = some u->(((((h1.push ⟨.type "list",none,.seq us.toArray 0,#[]⟩).update D (Obj.mapSeq fun _=>#[])).push o1).push o2).get? b) = some u:=fun o1 o2 b u e=>by
  refine Heap.get?_push_of_some _ (Heap.get?_push_of_some _ ?_);rw [Heap.get?_update_other _ _ (Nat.ne_of_gt (Nat.lt_trans (Heap.lt_size e) Ni))];exact Heap.get?_push_of_some _ (k1 b u e)
 refine yr (A:=X.A.in1.in1) (H:=H) rfl ⟨I.kept (t':=s.toks) (k5 _ _),fun _ _ e=>e,I.fpOk ?_ (I.hok.fresh ?_),I.fpOk (Nat.le_of_lt Ni) (I.hok.fresh (Nat.le_of_lt Ni)),⟨0,Heap.get?_push_size _ rfl⟩,gD3 _ _,?_,⟨[],.nil,trivial⟩⟩ r hk hz nd fun xs' s' H1 a b c d e=>⟨.none,rfl,?_⟩
 ·rw [size_push',Heap.size_update,size_push'];omega
 ·rw [size_push',Heap.size_update,size_push'];omega
 ·rw [size_push',Heap.size_update,size_push',hD];exact Nat.ne_of_lt (Nat.lt_succ_of_lt (Nat.lt_succ_self D))
 ·exact wpAny_pure ⟨.ref D,rfl,.ref D,H1,c,rfl,q xs' D H1 a b (I.hok.fresh (Nat.le_of_lt Ni)) d e⟩
end
section
variable {a:Expr} {x:Str} {p pos:Pos} {kpos:Pos} {ke:Expr} {t:TA} {tk:TE}
def oa (X:Cx):List V->V->Hp->VK->Prop:=fun vs f H Q=>∃ pl xs kf fa,vs = [.ref pl]/\f = .ref fa/\SqL X.K H pl xs/\xs.length < 100000/\(xs.map kf).Nodup/\(∀ y ∈ xs,xi X X.A.in1.in1 (.ref fa) H kf y) /\
 ∀ xs' l H1,xs'.Perm xs->jT kf xs'->H l = none->Same H H1->H1 l = some (.lst xs')->Q (.ref l) H1
def vW (X:Cx) (t:TA) (tk:TE):TE:=fun σ H Q=>t σ H fun vs H1=>tk σ H1 fun f H2=>oa X vs f H2 Q
theorem Ba (hm:X.mg "sorted" = none) (ha:PA X [a] t) (hk:PE X ke tk) (hg:Gl X "sorted":=by rfl) (h1:isStar a = false:=by rfl):PE X (.Call (.Name "sorted" p) [a] [⟨some "key",ke,kpos⟩] pos) (vW X t tk):=by
 intro pins s σ H Q I h;refine wpAny_Call_Name_kw (lK I hg hm boot_sorted ?_ (by decide) (by decide));refine callWith_builtin_kwB (by rw [aJ h1];rfl) rfl ?_;rw [aJ h1];have hs:wpAny (model X.prog X.w) X.A (spliced (backTo pos ((false,eval a X.env) :: starEach [] X.env))) (AP X pins σ fun vs H1=>tk σ H1 fun f H2=>oa X vs f H2 Q) X.xe s:=by
  rw [<- aJ h1];exact ha pos pins s σ H _ I h
 refine evalArgs_kwB rfl (cp hs fun us s1 ⟨vs,H1,I1,r1,q1⟩=>?_);refine cp ((DH (nm:=some "key") (kpos:=kpos) hk Hh) pos pins s1 σ H1 (fun zs H2=>match zs with | [f]=>oa X vs f H2 Q | _=>False) I1 q1) fun ws s2 ⟨zs,H2,I2,rz,q2⟩=>?_
 match zs,rz,q2 with
 | [f],rz,q2 =>
  obtain ⟨u,rfl,ru⟩:=vals1 rz;obtain ⟨pl,xs,kf,fa,rfl,rfl,hl,hz,nd,hk,q⟩:=q2;obtain ⟨u1,rfl,ru1⟩:=vals1 r1;obtain rfl:u = Value.ref fa:=ru;obtain rfl:u1 = Value.ref pl:=ru1;obtain ⟨its,r',pp,_⟩:=I2.list hl;exact yq I2 r' pp.isList hk hz nd (ksk_s1 _ _) (fun x=>ksk_l1 _ _) (fun x=>ksk_t1 _ _) q
theorem EG (hm:X.mg "sorted" = none) (ha:BA X [a] t) (hk:BE X ke tk) (hg:Gl X "sorted":=by rfl) (h1:isStar a = false:=by rfl):BE X (.Call (.Name "sorted" p) [a] [⟨some "key",ke,kpos⟩] pos) (vW X t tk):=⟨Ba hm ha.h hk.h hg h1⟩
end
end L2
namespace L2
open PySem PySem.Spec PySem.W PyProof.Rows
variable {H:Hp} {P:Program} {w:World} {K:W.Frag} {mg:Str->Option Value} {qual x:Str} {N:List Str} {f:Addr} {k:Nat}
def SameN (H H':Hp):Prop:=∀ b o,H b = some o->(∀ ps,o ≠ .tbl ps)->H' b = some o
theorem SameN.trans {H1 H2:Hp} (a:SameN H H1) (b:SameN H1 H2):SameN H H2:=fun c o e n=>b c o (a c o e n) n
def vB (qual:Str) (params:Arguments) (body:Expr) (scope:Scope) (f c':Addr) (h:Heap):Prop:=∃ pm iG,h.get? f = some (kla_obj (Str.ofString "<lambda>") qual params body scope [] pm c' iG)
def fB (qual:Str) (c':Addr) (h:Heap):Prop:=h.CodeRec (.ref c') qual
section
variable {base:Heap}
theorem Ec {params : Arguments} {body : Expr} {scope : Scope} {ps : List Str} {c' : Addr} {A : Around} {outer : List Env} {s : Shared} {us : List Value} {vs : List V} {Q : VK} (S : ao N ps scope) (hr : Room (k + 1) A) (e0 : qi P w K mg base A outer s H)
    (hf:H f = some (.ext (vB qual params body scope f c'))) (hc:H c' = some (.ext (fB qual c'))) (hb:∀ pm iG,bindArgs (kla_fn (Str.ofString "<lambda>") qual params body scope [] pm (.ref c') iG) ⟨us,[]⟩ = pure (ps.zip us)) (hl:vs.length = ps.length) (r:Vals vs us)
    (fe:Room k (A.deeper (envOfC qual scope s.heap.objs.size f (.ref c')))->∃ t,BE (gh cB P w K mg base N qual scope f (.ref c') A outer s H E0).nox body t/\t (start N vs) H Q) :
    wpAny (model P w) A (call (.ref f) us) (CE outer P w H s Q) (fun _ _=>False) s:=by
 obtain ⟨pm,iG,gf⟩:=(e0.hok f _ hf).1;have Lj:s.heap.CodeRec (.ref c') qual:=(e0.hok c' _ hc).1;have lim:s.heap.NoLimit:=e0.mod.nolimit.keeps fun b o e=>(e0.bs b o e).1
 have uS:∀ y ∈ ps.zip us,scope.names.lookup y.1 = some .local \/ (scope.names.lookup y.1 = some .cell/\((cellsFrom (s.heap.objs.size + 1) scope.names []).lookup y.1).isSome = true):=fun ⟨n,v⟩ hy=>by
  rcases S.par n (List.of_mem_zip hy).1 with q | q
  ·exact .inl q
  ·exact .inr ⟨q,W.cellsFrom_some _ _ _ (.inl q)⟩
 refine wpAny_call (kla_callFunE hr.depth gf rfl S.co S.gen rfl Lj ?_);rw [hb];refine wpAny_pure (wpAny_newFunctionEnv_cells S.kind uS fun env he s1 x=>?_);subst he;refine ⟨lim.keeps x.toInCall.keep,kla_codeExpr ?_⟩;obtain ⟨t,ht,hq⟩:=fe (hr.deeper _);have I:Inv (gh cB P w K mg base N qual scope f (.ref c') A outer s H E0) [] (start N vs) H s1:=lL S hr.hd e0 hl r x;exact wpAny_mono (ht.h [] s1 (start N vs) H Q (I.wish _) hq) (fun v s' ⟨v',H',J,rv,q⟩=>⟨v',H',J.unwish.os,J.unwish.bare,J.unwish.base,J.unwish.hok,rv,q⟩) fun _ _ z=>False.elim z
end
section
variable {base:Heap}
theorem Fun.okC {st : Stmt} {fd : FuncData} {ps : List Str} {sp : Sp} (F : Fun K x qual st f fd) (S : ao N ps (aa st)) (len : ∀ vs H Q E, sp vs H Q E -> vs.length = ps.length)
    (fe:∀ (bA:Value) (A:Around) (outer:List Env) (s:Shared) (H:Hp) (vs:List V) (Q:VK) (E:XK),fd.code = bA->Room k (A.deeper (envOfC qual (aa st) s.heap.objs.size f bA))->sp vs H Q E ->
     ∃ t,zI (gh cB P w K mg base N qual (aa st) f bA A outer s H E).nox (aj st) t/\t { nx:=fun _ H'=>Q .non H',rt:=Q } (start N vs) H):FnOk P w K mg base cB (k + 1) f fd ps sp:=by
 obtain ⟨oc,od,kV,doc,pm,an,bA,ct,CK,rfl,lk,jN⟩:=F.ex;refine FG lk jN S len fun A outer s H vs Q E hr zF=>?_
 obtain ⟨t,h,q⟩:=fe bA A outer s H vs Q E rfl hr zF;exact ⟨t,h.h.nox,q⟩
end
section
variable {X:Cx} {kf:V->RK}
theorem By {A : Around} {params : Arguments} {body : Expr} {scope : Scope} {p : Str} {c' : Addr} {y : V} (S : ao N [p] scope) (hr : Room (k + 1) A) (hf : H f = some (.ext (vB qual params body scope f c'))) (hc : H c' = some (.ext (fB qual c')))
    (hb:∀ u pm iG,bindArgs (kla_fn (Str.ofString "<lambda>") qual params body scope [] pm (.ref c') iG) ⟨[u],[]⟩ = pure [(p,u)])
    (fe:∀ (s:Shared) (Hi:Hp),Same H Hi->Room k (A.deeper (envOfC qual scope s.heap.objs.size f (.ref c')))->∃ t,BE (gh cB X.prog X.w X.K X.mg X.base N qual scope f (.ref c') A X.stack s Hi E0).nox body t /\
     t (start N [y]) Hi fun v H2=>∃ a,v = .ref a/\Same Hi H2/\H2 a = some (.tup [.str (kf y).1,.int (kf y).2])):xi X A (.ref f) H kf y:=by
 intro s Hi u e0 kin sm ru;exact Ec (k:=k) S hr e0 (sm _ _ hf) (sm _ _ hc) (fun pm iG=>hb u pm iG) rfl (.cons ru .nil) fun CN=>fe s Hi sm CN
end
def xg (ts:List Addr) (H:Hp):Prop:=∀ p ∈ ts,H p = some (.tbl #[])
theorem y4 {P : Program} {w : World} {mb : Str -> Option Value} {CX : CQ} {fa a : Addr} {fd : FuncData} {sp : Sp} {s₁ : Shared} {vs : List Value} {ns : List Int} {ts : List Addr}
    (KX:K.In s₁.heap) (M9:s₁.heap.Ns mainGlobals mg) (hb:s₁.heap.Ns builtinsNs mb) (hbb:∀ x:Str,x ≠ "__name__"->mb x = bootBuiltins x) (Ta:s₁.heap.NoLimit) (hg:s₁.gens = #[])
    (ha:s₁.heap.get? a = some { cls:=.type "list",data:=.seq vs.toArray }) (hi:IntsAre vs ns) (hl:ns.length <= sizeLine) (hr:Room k callerA)
    (Ej:∀ p ∈ ts,s₁.heap.get? p = some (tabObj #[])) (hnk:∀ p ∈ ts,K.lookup p = none) (hct:∀ p ∈ ts,isCodeTable s₁.heap p) (hbm:∀ p ∈ ts,s₁.heap.BuiltinsAt mg p)
    (F:∀ base:Heap,K.In base->base.Ns mainGlobals mg->(∀ p ∈ ts,base.BuiltinsAt mg p)->FnOk P w K mg base CX k fa fd [x] sp) (Ll:∀ (s:Shared) (u:Value),BindsTo s fd ⟨[u],[]⟩ [(x,u)])
    (zF:∀ H:Hp,xg ts H->SqL K H a (ns.map V.int)->sp [.ref a] H (fun v _=>v = .bl true) fun _ _ _=>False)
    (TH:∀ H e s',CX [] H s₁ (fun _ _ _=>False) e s'->False) :
    codeAny (model P w) callerA (.call (.ref fa) ⟨[.ref a],[]⟩) (fun r s'=>r = .ok (.ret (.bool true))/\OldK s₁.heap s'.heap/\s'.os = s₁.os/\AllBare s'.gens) s₁:=by
 have rv:=qj hi;have Rw:=hi.length;have YH:a ∉ ts:=fun z=>by have:=Ej a z;rw [ha] at this;cases this
 have core : ∀ H : Hp, xg ts H -> (∀ b, b ∉ ts -> H b = none \/ (b = a /\ ∃ o xs, H b = some (.frz o (.lst xs)))) -> SqL K H a (ns.map V.int) -> HOk P w H s₁.heap -> (H a ≠ none -> K.lookup a = none) ->
     codeAny (model P w) callerA (.call (.ref fa) ⟨[.ref a],[]⟩) (fun r s'=>r = .ok (.ret (.bool true))/\OldK s₁.heap s'.heap/\s'.os = s₁.os/\AllBare s'.gens) s₁:=by
  intro H hT hO hS hok hK;have sR:∀ {b:Addr} {o:Obj},s₁.heap.get? b = some o->H b = none->(p8 s₁.heap H).get? b = some o:=fun e n=>BX e n
  have no:∀ {b:Addr} {o:Obj},s₁.heap.get? b = some o->b ∉ ts->b ≠ a->H b = none:=fun {b o} e n1 n2=>by
   rcases hO b n1 with z | ⟨z,_⟩
   ·exact z
   ·exact absurd z n2
  have MW:∀ {b:Addr} {m:Str->Option Value},s₁.heap.Ns b m->(p8 s₁.heap H).Ns b m:=fun {b m} ⟨o,es,ep,e,d,r⟩=>⟨o,es,ep,sR e (no e (fun z=>by rw [Ej b z] at e;cases e;cases d) (fun z=>by rw [z,ha] at e;cases e;cases d)),d,r⟩
  have Yc:K.In (p8 s₁.heap H):=fun b o e=>sR (KX b o e) (by
   by_cases z:b ∈ ts
   ·rw [hnk b z] at e;cases e
   ·rcases hO b z with q | ⟨q,o',xs,q'⟩
    ·exact q
    ·rw [q] at e q';rw [hK (by rw [q'];simp)] at e;cases e)
  have hBb:∀ p ∈ ts,(p8 s₁.heap H).BuiltinsAt mg p:=fun p hp=>by
   obtain ⟨bm,o,e1,e2,e3,e4,e5,e6,e7,e8⟩:=hbm p hp;refine ⟨bm,o,e1,e2,e3,e4,sR e5 (no e5 (fun z=>?_) fun z=>?_),e6,e7,e8⟩
   ·rw [Ej bm z] at e5;cases e5;cases e6
   ·rw [z,ha] at e5
    cases e5
    have e6':Value.type "list" = Value.type "module":=e6
    injection e6' with h
    exact absurd h (by decide)
  have hM:Mod K mg (p8 s₁.heap H):=⟨Yc,MW M9,⟨mb,MW hb,hbb⟩,let ⟨mc,h1,h2⟩:=Ta;⟨mc,MW h1,h2⟩⟩
  have e0:qi P w K mg (p8 s₁.heap H) callerA [] s₁ H:=⟨rfl,hM,fun b o e=>D1 e,Nat.le_of_eq (ze _ _),trivial,fun b hb=>absurd (show b ∈ ([]:List Addr) from hb) (by simp),hok,.of_eq hg⟩
  refine codeAny_mono ((F _ Yc (MW M9) hBb).run callerA [] s₁ H ⟨[.ref a],[]⟩ [.ref a] [.ref a] _ _ hr e0 (Ll s₁ (.ref a)) (.cons rfl .nil) (zF H hT hS)) fun r s' h=>?_
  cases r with
  | error e=>exact (TH H e s' h).elim
  | ok fl =>
   cases fl with
   | next=>exact False.elim h
   | brk=>exact False.elim h
   | cont=>exact False.elim h
   | ret u =>
    obtain ⟨v,H',os,bare,un,BV,r',q⟩:=h;have q':v = .bl true:=q;subst q';obtain rfl:u = Value.bool true:=r';refine ⟨rfl,⟨fun b o e=>?_,fun b o e=>un.there b o e (by simp)⟩,os,bare⟩
    by_cases z:b ∈ ts
    ·obtain ⟨more,e2⟩:=un.tbls b _ (hT b z);have e3:s'.heap.get? b = some (tabObj (#[] ++ more)):=BV b _ e2;rw [Ej b z] at e
     cases e
     exact .inr (.inl ⟨hct b z,rfl,#[],more,rfl,e3⟩)
    ·refine .inl ?_
     rcases hO b z with q | ⟨_,ob,xs,q⟩
     ·exact un.keep b o e q (by intro z;exact absurd (show b ∈ ([]:List Addr) from z) (by simp)) (by simp)
     ·have z2:=un.frzs b ob _ q;obtain ⟨e1,_⟩:=hok b _ q;obtain ⟨e2,_⟩:=BV b _ z2;rw [e] at e1;cases e1;exact e2
 cases hk:K.lookup a with
 | some o =>
  have e:=KX a o hk;rw [ha] at e
  cases e
  refine core (fun b=>if b ∈ ts then some (.tbl #[]) else none) (fun p hp=>if_pos hp) (fun b hb=>.inl (if_neg hb)) (.inr ⟨_,vs.toArray,_,hk,rfl,rfl,rfl,by rw [List.size_toArray,Rw];exact hl,by simpa using rv⟩) (fun b u z=>?_) fun z=>absurd (if_neg YH) z
  by_cases hb:b ∈ ts
  ·have z':=(if_pos hb).symm.trans z
   cases z'
   exact Ej b hb
  ·have z':=(if_neg hb).symm.trans z
   cases z'
 | none =>
  refine core (fun b=>if b ∈ ts then some (.tbl #[]) else if b = a then some (.frz { cls:=.type "list",data:=.seq vs.toArray } (.lst (ns.map V.int))) else none) (fun p hp=>if_pos hp) (fun b hb=>?_) (.inl (.inr ⟨{ cls:=.type "list",data:=.seq vs.toArray },(if_neg YH).trans (if_pos rfl)⟩)) (fun b u z=>?_) fun _=>hk
  ·by_cases IE:b = a
   ·exact .inr ⟨IE,_,_,(if_neg hb).trans (if_pos IE)⟩
   ·exact .inl ((if_neg hb).trans (if_neg IE))
  ·by_cases hb:b ∈ ts
   ·have z':=(if_pos hb).symm.trans z
    cases z'
    exact Ej b hb
   ·by_cases IE:b = a
    ·have z':=((if_neg hb).trans (if_pos IE)).symm.trans z
     cases z'
     subst IE;exact ⟨ha,by rw [List.length_map];exact hl,vs,_,rv,ha⟩
    ·have z':=((if_neg hb).trans (if_neg IE)).symm.trans z
     cases z'
theorem walk_ofT {l : W.OpenLaw} {n : Nat} {q : Program} {loose : List Str} {XP : (Str -> Option Value) -> Heap -> Prop} {YP : World -> Heap -> Prop} {d : DefRec} {K : Params -> W.Frag} {CX : World -> CQ} {sp : World -> Sp} {ts : List Addr}
    (hn:l.most = some n) (Iw:n <= sizeLine) (Lh:d.params.defaults = []) (hr:Room k callerA)
    (hY:∀ (w:World) (h:Heap),YP w h->(K w.params).In h/\∀ p ∈ ts,h.get? p = some (tabObj #[]))
    (F:∀ (w:World) (mg:Str->Option Value) (fa:Addr) (h:Heap),(K w.params).In h->h.Ns mainGlobals mg->mg d.name = some (.ref fa) ->
     (∀ p ∈ ts,(K w.params).lookup p = none/\∃ c,codeHdIn (K w.params) c p = true) /\
     ∃ fd:FuncData,(∀ (s:Shared) (u:Value),BindsTo s fd ⟨[u],[]⟩ [(x,u)]) /\
      ∀ base:Heap,(K w.params).In base->base.Ns mainGlobals mg->(∀ p ∈ ts,base.BuiltinsAt mg p)->FnOk l.prog w (K w.params) mg base (CX w) k fa fd [x] (sp w))
    (zF:∀ (w:World) (H:Hp) (a:Addr) (ns:List Int),ns.length <= n->xg ts H->SqL (K w.params) H a (ns.map V.int)->sp w [.ref a] H (fun v _=>v = .bl true) fun _ _ _=>False)
    (TH:∀ (w:World) (H:Hp) (s:Shared) (e:Value) (s':Shared),CX w [] H s (fun _ _ _=>False) e s'->False) :
    W.WalkO q loose XP YP l.row.toRowW d [] (fun f vs=>PySem.call f vs):=by
 refine Att.attach_call hn Lh fun w s₀ s₁ mg mb fa o pm cd doc a vs ns G Y ho hd jN K3 Iu hints hlen hg=>?_
 obtain ⟨KX,Ej⟩:=hY w _ Y;obtain ⟨hp,fd,hb,hF⟩:=F w mg fa _ KX G.T.g K3;refine y4 KX G.T.g G.T.b G.T.builtins G.T.nolimit hg Iu hints (Nat.le_trans hlen Iw) hr Ej (fun p h=>(hp p h).1) (fun p h=>?_) (fun p h=>?_) hF hb (fun H hO hS=>zF w H a ns hlen hO hS) fun H e s'=>TH w H s₁ e s'
 ·obtain ⟨c,hc⟩:=(hp p h).2;obtain ⟨o,vs,_,_,_,_,_,_,_,e1,e2,e3,e4,_⟩:=codeHd_of_K KX hc;exact ⟨c,o,vs,e1,e2,e3,e4⟩
 ·obtain ⟨bm,ob,e1,e2,e3,e4,e5,e6⟩:=G.T.bmain;refine ⟨bm,ob,e1,e2,fun z=>?_,fun z=>?_,e3,e4,e5,e6⟩
  ·obtain ⟨o,es,ep,g1,g2,_⟩:=G.T.g;rw [z,g1] at e3
   cases e3
   rw [e6] at g2
   cases g2
  ·rw [z,Ej p h] at e3
   cases e3
   cases e4
end L2
namespace L2
open PySem PySem.Spec PyProof.Rows
local macro_rules | `(term| type_of% $n:ident) => return Lean.mkIdent (Lean.mkPrivateNameCore `PySem.Builtin.Dict_items.Iterators (`PySem.Builtin ++ n.getId))
local macro_rules | `(tactic| delta $n:ident) => if Lean.isPrivateName n.getId then Lean.Macro.throwUnsupported else `(tactic| delta $(Lean.mkIdent (Lean.mkPrivateNameCore `PySem.Builtin.Dict_items.Iterators (`PySem.Builtin ++ n.getId))):ident)
section
variable {prog:Program} {w:World} {A:Around} {E:Value->Shared->Prop} {s:Shared} {it d:Addr} {i ep:Nat} {o:Obj} {es:Array DictEntry}
theorem oE {Q:Nat->Shared->Prop} (st:s.TypeIs (.ref it) "dict_keyiterator") (q:Q 0 s):wpAny (model prog w) A ((type_of% base) (.ref it)) Q E s:=by
 delta base
 exact wpAny_bind (wpAny_typeNameOfWhole_keyiter st (wpAny_pure q))
theorem qK {id:String} {Q:Option (Array DictEntry × Int)->Shared->Prop} (st:s.heap.IsKeyIter it d i es.size ep) (hd:s.heap.get? d = some o) (Em:o.data = .dict es ep) (q:Q (some (es,(i:Int))) s):wpAny (model prog w) A ((type_of% place) id (.ref it) true) Q E s:=by
 have ty:=st.typeIs (s:=s);obtain ⟨oi,e1,e2,e3⟩:=st
 delta place
 refine wpAny_bind (oE ty ?_);refine wpAny_bind (wpAny_fieldsOf e1 e3 ?_);show wpAny _ _ (if (Value.ref d == Value.none) = true then _ else _) _ _ _
 rw [if_neg (by simp)];refine wpAny_bind (wpAny_pure ?_);refine wpAny_bind (wpAny_dictEntries hd Em ?_);dsimp only;rw [if_neg (by simp)];refine wpAny_bind (wpAny_pure ?_);refine wpAny_bind (wpAny_dictEpoch hd Em ?_);rw [if_neg (by simp)];exact wpAny_pure q
theorem BB {e : DictEntry} {Q : Option Value -> Shared -> Prop} (st : s.heap.IsKeyIter it d i es.size ep) (hd : s.heap.get? d = some o) (Em : o.data = .dict es ep) (he : es[i]? = some e)
    (q:∀ h',h'.IsKeyIter it d (i + 1) es.size ep->Heap.SameBut it s.heap h'->Q (some e.key) { s with heap:=h' }):wpAny (model prog w) A (pyNext (.ref it)) Q E s:=by
 have ty:=st.typeIs (s:=s);unfold pyNext;refine wpAny_bind (wpAny_attempt (wpAny_callSpecial?_slot ty F.slot_dict_keyiterator_next (wpAny_call_entry F.slot_dict_keyiterator_next ty F.entry_dict_keyiterator_next ?_ (F.args_dict_keyiterator_next_1 _))));show wpAny _ _ ((type_of% nextOfTheView) _ _) _ _ _
 delta nextOfTheView
 refine wpAny_bind (wpAny_pure ?_);refine wpAny_bind (qK st hd Em ?_);dsimp only;rw [if_neg (show ¬ (i:Int) < 0 by omega),show ((i:Int).toNat) = i from Int.toNat_natCast i,he];dsimp only;refine wpAny_bind (oE ty ?_);refine wpAny_bind (wpAny_isOneOf_keyiter ty ?_);obtain ⟨oi,e1,e2,e3⟩:=st;refine wpAny_bind (wpAny_setField e1 e3 (by simp) ?_);generalize hh:s.heap.update it _ = h1;have g1:h1.IsKeyIter it d (i + 1) es.size ep:=by
  rw [<- hh];refine ⟨_,Heap.get?_update_self _ e1 (Obj.isFreed_of_fields (Obj.data_mapFields e3 _)),(Obj.cls_mapFields _ _).trans e2,(Obj.data_mapFields e3 _).trans ?_⟩
  rfl
 have sb:Heap.SameBut it s.heap h1:=by rw [<- hh];exact Heap.SameBut.update _ _ _
 have JC:=g1.typeIs (s:={ s with heap:=h1 });refine wpAny_bind (wpAny_holding ?_)
 delta pick
 refine wpAny_bind (wpAny_isOneOf_keyiter JC ?_);rw [if_pos (by decide)];exact wpAny_pure (wpAny_pure ⟨_,rfl,wpAny_pure (q h1 g1 sb)⟩)
theorem Ee {Q : Option Value -> Shared -> Prop} (hh : A.handled = none) (st : s.heap.IsKeyIter it d i es.size ep) (hd : s.heap.get? d = some o) (Em : o.data = .dict es ep) (he : es[i]? = none)
    (q:∀ h',Heap.ExtBut it s.heap h'->Q none { s with heap:=h' }):wpAny (model prog w) A (pyNext (.ref it)) Q E s:=by
 have ty:=st.typeIs (s:=s);unfold pyNext;refine wpAny_bind (wpAny_attempt (wpAny_callSpecial?_slot ty F.slot_dict_keyiterator_next (wpAny_call_entry F.slot_dict_keyiterator_next ty F.entry_dict_keyiterator_next ?_ (F.args_dict_keyiterator_next_1 _))));show wpAny _ _ ((type_of% nextOfTheView) _ _) _ _ _
 delta nextOfTheView
 refine wpAny_bind (wpAny_pure ?_);refine wpAny_bind (qK st hd Em ?_);dsimp only;rw [if_neg (show ¬ (i:Int) < 0 by omega),show ((i:Int).toNat) = i from Int.toNat_natCast i,he];dsimp only;refine wpAny_bind (oE ty ?_);obtain ⟨oi,e1,e2,e3⟩:=st;refine wpAny_bind (wpAny_setField e1 e3 (by simp) ?_);generalize Nc:s.heap.update it _ = h1;have sb:Heap.SameBut it s.heap h1:=by rw [<- Nc];exact Heap.SameBut.update _ _ _
 refine wpAny_bind (wpAny_bind (wpAny_newTuple ?_ (Nat.zero_le _)));refine wpAny_bind (wpAny_pure ?_);refine wpAny_newObj_type ?_ (sizeOk_excFields _ _ _ _ _ _ _ _);unfold raiseNew;refine wpAny_bind (wpAny_handled ?_);have hh':A.in1.handled = none:=hh;rw [hh'];refine wpAny_throw ?_;refine wpAny_bind (wpAny_isInstance (T:="StopIteration") ⟨_,Heap.get?_push_size _ rfl,rfl⟩ isSubtype_stop ?_);rw [if_pos rfl];exact wpAny_pure (q _ fun b o n e=>Heap.get?_push_of_some _ (Heap.get?_push_of_some _ (sb.extBut b o n e)))
theorem Bz {Q : Value -> Shared -> Prop} (hm : (d == sysModules) = false) (hd : s.heap.get? d = some o) (hx : o.ExactDict) (Em : o.data = .dict es ep) (hz : es.size <= sizeLine)
    (q:∀ h',h'.IsKeyIter s.heap.objs.size d 0 es.size ep->(∀ b u,s.heap.get? b = some u->h'.get? b = some u)->Q (.ref s.heap.objs.size) { s with heap:=h' }):wpAny (model prog w) A (pyIter (.ref d)) Q E s:=by
 have ty:s.TypeIs (.ref d) "dict":=⟨o,hd,hx.1⟩;refine wpAny_pyIter_slot ty F.slot_dict_iter (wpAny_call_entry F.slot_dict_iter ty F.entry_dict_iter ?_ (F.args_dict_iter_1 _));show wpAny _ _ (Builtin.Dict.dictSlotNone "__iter__" { pos:=[.ref d] } >>= _) _ _ _;refine wpAny_bind (wpAny_bind (wpAny_notOrdered_dict ty (wpAny_bind (wpAny_pure (wpAny_pure ?_)))));refine wpAny_bind (wpAny_pure ?_);refine wpAny_bind ?_;unfold Builtin.Dict.showsAll;rw [if_neg (by rw [hm];decide)];refine wpAny_pure ?_;refine wpAny_bind (wpAny_dictEntries hd Em ?_);refine wpAny_bind (wpAny_dictEpoch hd Em ?_);refine wpAny_bind (wpAny_newObj_type ?_ ?_)
 ·refine wpAny_pure ⟨_,rfl,"dict_keyiterator",_,⟨_,Heap.get?_push_size _ rfl,rfl⟩,F.slot_dict_keyiterator_next.lookup,q _ ⟨_,Heap.get?_push_size _ rfl,rfl,rfl⟩ fun b u e=>Heap.get?_push_of_some _ e⟩
 ·show sizeOk _
  first | trivial | exact Nat.le_refl _ | (unfold sizeOk;simp [sizeLine_eq]) | (simp [sizeOk,sizeLine_eq])
end
end L2
namespace L2
open PySem PySem.Spec PyProof.Rows
section
variable {X:Cx} {K:W.Frag} {σ:St} {H:Hp} {Q:VK} {e:Expr} {te:TE} {pos:Pos} {pins:List (Addr × Obj)} {s:Shared}
theorem Inv.freeze {a:Addr} {az:List (List Key × V)} (I:Inv X pins σ H s) (e:H a = some (.dT az)):∃ o,s.heap.get? a = some o/\Inv X pins σ (upd H a (.frz o (.dT az))) s:=by
 have ho:=I.hok a _ e;obtain ⟨_,_,xs,r,o,es,ep,h1,h2⟩:=id ho;refine ⟨o,h1,?_⟩;have nt:∀ b u,H b = some u->(∀ k,u ≠ .dT k)->b ≠ a:=fun b u q n z=>by rw [z,e] at q;cases q;exact n _ rfl
 have un:Un X.fs [] H (upd H a (.frz o (.dT az))) s.heap s.heap:=by
  refine ⟨fun b o q _ _ _=>q,fun b o q _ _ _=>⟨o.slots,q⟩,fun b o q n _=>?_,fun b o q _=>⟨o,q⟩,fun b xs q=>?_,fun b o u q=>?_,fun b ps q=>⟨#[],?_⟩⟩
  ·rw [ay (fun z=>by rw [z,e] at n;cases n)];exact n
  ·rw [ay (nt b _ q (fun _ z=>by cases z))];exact q
  ·rw [ay (nt b _ q (fun _ z=>by cases z))];exact q
  ·rw [ay (nt b _ q (fun _ z=>by cases z)),q];simp
 have ht:∀ b ys,H b = some (.tup ys)->upd H a (.frz o (.dT az)) b = some (.tup ys):=fun b ys q=>by rw [ay (nt b _ q (fun _ z=>by cases z))];exact q
 have hw:∀ b x,H b = some (.own x)->upd H a (.frz o (.dT az)) b = some (.own x):=fun b x q=>by rw [ay (nt b _ q (fun _ z=>by cases z))];exact q
 refine I.un (t':=s.toks) un fun b u q=>?_
 by_cases z:b = a
 ·subst z;rw [aC] at q
  cases q
  exact ⟨h1,ho.stay (fun c v _ q=>q) (fun c r=>hw c _ r) fun c xs r=>ht c _ r⟩
 ·rw [ay z] at q;exact (I.hok b u q).stay (fun c v _ q=>q) (fun c r=>hw c _ r) fun c xs r=>ht c _ r
def Nw (a:Addr) (o:Obj) (az:List (List Key × V)):It :=
 ⟨fun i H=>H a = some (.frz o (.dT az))/\i < az.length,fun i H x H'=>H' = H/\∃ b k v,az[i]? = some (k,v)/\x = .ref b/\H b = some (.tup (k.map kV)),fun i H=>H a = some (.frz o (.dT az))/\az.length <= i⟩
theorem yl {P:Program} {w:World} {K:W.Frag} {tg:Expr} (a it:Addr) (o:Obj) (az:List (List Key × V)) (es:Array DictEntry) (ep:Nat) (en:o.data = .dict es ep):Turn P w K tg (Nw a o az) [it] it (fun i h=>h.IsKeyIter it a i es.size ep) where
 mem:=by simp
 obj:=fun i h st b hb=>by
  have e:b = it:=by simpa using hb
  subst e;obtain ⟨o,e,c,d⟩:=st;exact ⟨o,e,fun v z=>by rw [d] at z;cases z⟩
 keep:=fun i h h' st k=>st.at fun o e=>k it (by simp) o e
 item:=by
  intro X hP hw hK hc i pins s σ H E I hf st hg;subst hP hw hK;obtain ⟨ha,hi⟩:=hg;obtain ⟨ho,_,_,xs,r,o',jf,Lz,h1,h2,h3,h4,h5⟩:=I.hok a _ ha;rw [ho] at h1
  cases h1
  rw [en] at h3
  cases h3
  obtain ⟨f0,f1,f2,f3,f4,f5⟩:=hf it (by simp);have hlen:xs.length = az.length:=by
   have:∀ {l:List (List Key × V)} {m:List (List Key × Addr × Value)},KT H l m->m.length = l.length:=by
    intro l m q
    induction q with
    | nil=>rfl
    | cons _ _ ih=>rw [List.length_cons,List.length_cons,ih]
   exact this r
  have hx:i < xs.length:=by omega
  have IC:es[i]? = some (entryOfKey (tupleKind (cI X.prog X.w)) xs[i]):=by
   rw [<- Array.getElem?_toList,h4,List.getElem?_map,List.getElem?_eq_getElem hx];rfl
  have at_:∀ {l:List (List Key × V)} {m:List (List Key × Addr × Value)} {j:Nat} {q:List Key × Addr × Value},KT H l m->m[j]? = some q->∃ p,l[j]? = some p/\p.1 = q.1/\H q.2.1 = some (.tup (p.1.map kV)):=by
   intro l m j q t
   induction t generalizing j with
   | nil=>intro z;simp at z
   | @cons p q' ps qs hq t ih =>
    intro z
    cases j with
    | zero =>
     simp at z;subst z;exact ⟨p,rfl,hq.1,hq.2.1⟩
    | succ j=>exact ih (by simpa using z)
  obtain ⟨p,hp,hk,hb⟩:=at_ r (List.getElem?_eq_getElem hx);refine BB st ho en IC fun h' bj sb=>?_
  have I1:Inv X pins σ H { s with heap:=h' }:=I.turned (t':=s.toks) (fun b o hb e=>(sb.2 b hb).trans e) f0 f1 f3 f4 f5
  exact ⟨_,rfl,letGo_keyiter bj ⟨.ref (xs[i]).2.1,H,I1,rfl,⟨rfl,_,p.1,p.2,hp,rfl,hb⟩,bj,fun b hb=>(hf b hb).1⟩⟩
 done:=by
  intro X hP hw hK hc i pins s σ H E I hf st hg;subst hP hw hK;obtain ⟨ha,hi⟩:=hg;obtain ⟨ho,_,_,xs,r,o',jf,Lz,h1,h2,h3,h4,h5⟩:=I.hok a _ ha;rw [ho] at h1
  cases h1
  rw [en] at h3
  cases h3
  obtain ⟨f0,f1,f2,f3,f4,f5⟩:=hf it (by simp);have hlen:xs.length = az.length:=by
   have:∀ {l:List (List Key × V)} {m:List (List Key × Addr × Value)},KT H l m->m.length = l.length:=by
    intro l m q
    induction q with
    | nil=>rfl
    | cons _ _ ih=>rw [List.length_cons,List.length_cons,ih]
   exact this r
  have IC:es[i]? = none:=by
   rw [<- Array.getElem?_toList,h4,List.getElem?_map,List.getElem?_eq_none (by omega)];rfl
  exact Ee (I.ok.hd hc) st ho en IC fun h' eb=>⟨rfl,I.turned (t':=s.toks) (fun b o hb e=>eb b o hb e) f0 f1 f3 f4 f5⟩
 self:=fun _ _ _ _ _ st h=>wpAny_pyIter_keyiter st h
def Fw (te:TE):TI:=fun σ H R=>te σ H fun x H1=>∃ a az,x = .ref a/\H1 a = some (.dT az)/\∀ o,R (Nw a o az) (upd H1 a (.frz o (.dT az)))
theorem EE {tg:Expr} (h:BE X e te):BI X tg e (Fw te):=⟨by
 intro pins s σ H R I q;refine cp (h.h pins s σ H _ I q) fun u s1 ⟨x,H1,I1,rx,a,az,ex,ha,q⟩=>?_
 subst ex
 cases (show u = Value.ref a from rx)
 obtain ⟨o,ho,I2⟩:=I1.freeze ha;obtain ⟨_,hm,xs,r,o',es,ep,h1,h2,h3,h4,h5⟩:=I1.hok a _ ha;rw [ho] at h1
 cases h1
 have hz:es.size <= sizeLine:=by
  have hl:=(FJ I1.hok ha).1;have:∀ {l:List (List Key × V)} {m:List (List Key × Addr × Value)},KT H1 l m->m.length = l.length:=by
   intro l m q
   induction q with
   | nil=>rfl
   | cons _ _ ih=>rw [List.length_cons,List.length_cons,ih]
  have:=this r;rw [<- Array.length_toList,h4,List.length_map,this];exact hl
 refine Bz hm ho h2 h3 hz fun h' st k=>?_
 have hn:upd H1 a (.frz o (.dT az)) s1.heap.objs.size = none:=I2.hok.fresh (Nat.le_refl _);refine ⟨s1.heap.objs.size,[s1.heap.objs.size],_,_,_,rfl,I2.kept (t':=s1.toks) k,yl a _ o az es ep h3,st,fun b hb=>?_,q o⟩
 rw [List.mem_singleton.mp hb];exact I2.fpOk (Nat.le_refl _) hn⟩
instance zz2 {te:TE} {F:It->Hp->Prop}:bH (Fw te σ H F) (te σ H fun x H1=>∃ a az,x = .ref a/\H1 a = some (.dT az)/\∀ o,F (Nw a o az) (upd H1 a (.frz o (.dT az)))):=⟨id⟩
end
end L2
namespace L2
open PySem PySem.Spec PySem.W PyProof.Rows
variable {qual:Str} {P:Addr} {pos:Pos}
section
variable {Md:Model} {A:Around} {E:Value->Shared->Prop} {s:Shared} {name:Str} {params:Arguments} {body:Expr} {scope:Scope} {env:Env} {c c':Addr} {ps:Array Value} {firstLine:Nat} {mg:Str->Option Value} {Q:Value->Shared->Prop}
theorem Ed (hc : closureFor scope env = pure []) (hg : env.globals = mainGlobals) (hn : s.heap.Ns mainGlobals mg) (jN : env.code = .ref c) (hC : CodeHd s.heap c P) (hP : s.heap.get? P = some (tabObj ps)) (ht : TriplesOk ps.toList) (hm : codeAmong pos ps.toList = some (.ref c')) (hB : s.heap.BuiltinsAt mg P)
    (q:∀ iG,Q (.ref s.heap.objs.size) { s with heap:=s.heap.push (kla_obj name qual params body scope [] ((mg (Str.ofString "__name__")).getD .none) c' iG) }):wpAny Md A (makeFunction name qual params (.expr body) scope env [] [] [] pos firstLine) Q E s:=by
 rw [makeFunction_eq];dsimp only;rw [if_pos (show ([]:List Value).isEmpty = true from rfl)];refine wpAny_bind (wpAny_pure ?_);rw [List.zip_nil_right,List.filterMap_nil,if_pos (show ([]:List (Str × Value)).isEmpty = true from rfl)];refine wpAny_bind (wpAny_pure ?_);refine wpAny_bind (wpAny_pure ?_);unfold makeTail;rw [hc];refine wpAny_bind (wpAny_pure ?_);dsimp only;rw [if_pos (show ([]:List (Str × Addr)).isEmpty = true from rfl)];refine wpAny_bind (wpAny_pure ?_);refine wpAny_bind (wpAny_functionCode_hit jN (hC.code hP ht) hm ?_);obtain ⟨bm,ob,b1,b2,b3,b4,b5,b6,b7,b8⟩:=hB;rw [hg];refine wpAny_bind (wpAny_builtinsFor hn b1 b2 b5 b6 b7 b8 ?_);refine wpAny_bind (wpAny_nsGet hn ?_);refine wpAny_bind (wpAny_pure ?_);refine wpAny_newObj_type (q .none) ?_;trivial
end
def TabOk (P:Addr) (pos:Pos) (qual:Str) (H:Hp):Prop:=∃ ps,H P = some (.tbl ps)/\TriplesOk ps.toList/\(codeAmong pos ps.toList = none \/ ∃ c',codeAmong pos ps.toList = some (.ref c')/\H c' = some (.ext (fB qual c')))
theorem TabOk.start {H:Hp} (h:H P = some (.tbl #[])):TabOk P pos qual H:=⟨#[],h,trivial,.inl rfl⟩
theorem TabOk.same {H H':Hp} (h:TabOk P pos qual H) (s:Same H H'):TabOk P pos qual H':=by
 obtain ⟨ps,h1,h2,h3⟩:=h;exact ⟨ps,s _ _ h1,h2,h3.imp id fun ⟨c',a,b⟩=>⟨c',a,s _ _ b⟩⟩
end L2
namespace HT
open PySem PySem.Spec PyProof.Rows
end HT
namespace L2
open PySem PySem.Spec PyProof.Rows
abbrev At:=Sum Str Int
def MB:At->V
 | .inl x=>.str x
 | .inr n=>.int n
inductive AtsAre:List Value->List At->Prop
 | nil:AtsAre [] []
 | str {us r} (x:Str) (t:Tok):AtsAre us r->AtsAre (.str x t :: us) (.inl x :: r)
 | int {us r} (n:Int) (t:Tok):AtsAre us r->AtsAre (.int n t :: us) (.inr n :: r)
theorem AtsAre.length {us:List Value} {as:List At} (h:AtsAre us as):us.length = as.length:=by
 induction h with
 | nil=>rfl
 | str _ _ _ ih=>simp only [List.length_cons,ih]
 | int _ _ _ ih=>simp only [List.length_cons,ih]
theorem ja:∀ {as:List At} {us:List Value},Vals (as.map MB) us->AtsAre us as
 | [],_,r=>by rw [List.map_nil] at r;cases r;exact .nil
 | .inl x :: as,_,r=>by
  rw [List.map_cons] at r
  cases r with
  | cons r1 r2 =>
   obtain ⟨t,rfl⟩:=r1;exact .str x t (ja r2)
 | .inr n :: as,_,r=>by
  rw [List.map_cons] at r
  cases r with
  | cons r1 r2 =>
   obtain ⟨t,rfl⟩:=r1;exact .int n t (ja r2)
def qH:List At->List At->Prop
 | .inl _ :: xs,.inl _ :: ys=>qH xs ys
 | .inr _ :: xs,.inr _ :: ys=>qH xs ys
 | .inl _ :: _,.inr _ :: _=>False
 | .inr _ :: _,.inl _ :: _=>False
 | _,_=>True
def lI:List At->List At->Bool
 | [],[]=>false
 | [],_ :: _=>true
 | _ :: _,[]=>false
 | .inl x :: xs,.inl y :: ys=>if x = y then lI xs ys else decide (x.cps.toList < y.cps.toList)
 | .inr x :: xs,.inr y :: ys=>if x = y then lI xs ys else decide (x < y)
 | _ :: _,_ :: _=>false
theorem AU (A : Around) (s : Shared) (a : Str) (t : Tok) (c : Str) (u : Tok) (prog : Program) (w : World) (E : Value -> Shared -> Prop) (Q : Value -> Shared -> Prop) (h : Q (.bool (decide (a.cps.toList < c.cps.toList))) s) :
    wpAny (model prog w) A (richCompare .Lt (.str a t) (.str c u)) Q E s :=
 (PyProof.Rows.lt_str h:wpAny (model prog w) A (compareOp .Lt (.str a t) (.str c u)) Q E s)
section
open PySem.SeqAt
open PySem.AutoSeq1 (wpAny_loadPart')
open PySem.MeetsSeq PySem.MeetsSeq2 PySem.MeetsSeq3
theorem ro (l b : Addr) (items items2 : Array Value) (n n2 : Nat) (dd Jx : Option Addr) (sl E8 : Array (Option Value)) (ns ms : List At) (hi : AtsAre items.toList ns) (hj : AtsAre items2.toList ms) (hk : qH ns ms) :
    Meets (Builtin.«tuple.__lt__» ⟨[.ref l,.ref b],[]⟩)
     (fun _ R s=>s.heap.get? l = some { cls:=.type "tuple",dict:=dd,data:=.seq items n,slots:=sl }/\s.heap.get? b = some { cls:=.type "tuple",dict:=Jx,data:=.seq items2 n2,slots:=E8 } /\
      R (.ok (.ret (.bool (lI ns ms)))) s) :=
 .of_wp fun prog w A R s h=>by
  obtain ⟨hp,g,d,tk,os⟩:=s;obtain ⟨hl,hb,h⟩:=h;have f2:=AutoSeq1.sub_tuple_tuple;have z1:items.size = ns.length:=by rw [<- hi.length];simp
  have z2:items2.size = ms.length:=by rw [<- hj.length];simp
  wp_walk using wpAny_loadPart' hl,wpAny_loadPart' hb,wpAny_forIn_list _ (fun rest b s'=>b.1 = none/\s' = ⟨hp,g,d,tk,os⟩/\∃ (vs ws:List Value) (Fp Fs:List At),rest = vs.zip ws /\
   AtsAre vs Fp/\AtsAre ws Fs/\qH Fp Fs/\Fp.length + items2.size = Fs.length + items.size/\R (.ok (.ret (.bool (lI Fp Fs)))) ⟨hp,g,d,tk,os⟩) _
  case turn =>
   rintro ⟨y,x⟩ rest b s' ⟨Ep,rfl,vs,ws,Fp,Fs,hz,SN,M3,K5,hlen,hR⟩
   cases SN with
   | nil=>rw [List.zip_nil_left] at hz;cases hz
   | str a t Io =>
    cases M3 with
    | nil=>rw [List.zip_nil_right] at hz;cases hz
    | int c u BM=>exact K5.elim
    | str c u BM =>
     rw [List.zip_cons_cons] at hz
     injection hz with SG BP
     injection SG with hy hx
     subst hy hx;simp only [lI] at hR;simp only [List.length_cons] at hlen;refine wpAny_bind (SeqAt.EqAt.str_str a t c u prog w _ _ ?_)
     cases e:(a == c) with
     | true =>
      rw [if_pos (eq_of_beq e)] at hR
      wp_walk
      exact ⟨rfl,rfl,_,_,_,_,BP,Io,BM,K5,by omega,hR⟩
     | false =>
      rw [if_neg (fun q=>by rw [q] at e;simp at e)] at hR;have hri:=AU A.in1 ⟨hp,g,d,tk,os⟩ a t c u prog w
      wp_walk using hri
      exact ⟨_,rfl,by simpa using hR⟩
   | int a t Io =>
    cases M3 with
    | nil=>rw [List.zip_nil_right] at hz;cases hz
    | str c u BM=>exact K5.elim
    | int c u BM =>
     rw [List.zip_cons_cons] at hz
     injection hz with SG BP
     injection SG with hy hx
     subst hy hx;simp only [lI] at hR;simp only [List.length_cons] at hlen;obtain ⟨e,he,K'⟩:=HT.eqAt_int A.in1 ⟨hp,g,d,tk,os⟩ a t c u;refine wpAny_bind (he prog w _ _ ?_)
     cases e with
     | true =>
      rw [if_pos (K'.mp rfl)] at hR
      wp_walk
      exact ⟨rfl,rfl,_,_,_,_,BP,Io,BM,K5,by omega,hR⟩
     | false =>
      rw [if_neg (fun q=>absurd (K'.mpr q) Bool.false_ne_true)] at hR;have hri:=HT.rcLt_int A.in1 ⟨hp,g,d,tk,os⟩ a t c u prog w
      wp_walk using hri
      exact ⟨_,rfl,by simpa using hR⟩
  case fin =>
   rintro ⟨b1,b2⟩ s' ⟨Ep,rfl,vs,ws,Fp,Fs,hz,SN,M3,K5,hlen,hR⟩;simp only at Ep;subst Ep;have l1:=SN.length;have l2:=M3.length;have hv:lI Fp Fs = decide (items.size < items2.size):=by
    match Fp,Fs with
    | [],[] =>
     simp only [List.length_nil] at hlen;exact (decide_eq_false (by omega)).symm
    | [],_ :: _ =>
     simp only [List.length_nil,List.length_cons] at hlen;exact (decide_eq_true (by omega)).symm
    | _ :: _,[] =>
     simp only [List.length_nil,List.length_cons] at hlen;exact (decide_eq_false (by omega)).symm
    | _ :: _,_ :: _ =>
     match vs,ws,l1,l2 with
     | _ :: _,_ :: _,_,_ =>
      rw [List.zip_cons_cons] at hz
      cases hz
   rw [hv] at hR
   wp_walk
   exact ⟨_,rfl,by simpa [Builtin.Tuple.tupleCompareSizes] using hR⟩
  case h =>
   exact ⟨rfl,rfl,items.toList,items2.toList,ns,ms,rfl,hi,hj,hk,by omega,h⟩
end
section
variable {X:Cx} {K:W.Frag} {H:Hp} {Q:VK}
def J5 (K:W.Frag):R2:=fun x y H Q=>∃ a b as bs,x = .ref a/\y = .ref b/\SqT K H a (as.map MB)/\SqT K H b (bs.map MB)/\qH as bs/\Q (.bl (lI as bs)) H
theorem HE (hu:X.A.units < cLine):OpR X (compareOp .Lt) (J5 X.K):=by
 intro pins s σ H x y v u Q I rx ry h;obtain ⟨a,b,as,bs,rfl,rfl,ha,hb,hk,q⟩:=h
 cases rx
 cases ry
 obtain ⟨its,r1,p1,_⟩:=I.tuple ha;obtain ⟨iE,r2,p2,_⟩:=I.tuple hb;obtain ⟨⟨cls,dd,data,sl⟩,ho,hc,n,hd⟩:=id p1;obtain ⟨⟨Wl,Jx,data2,E8⟩,Iv,En,n2,hd2⟩:=id p2;simp only at hc hd En hd2;subst hc hd En hd2;exact richCompare_meets_room (op:=.Lt) ⟨_,ho,rfl⟩ ⟨_,Iv,rfl⟩ PySem.F.slot_tuple_lt PySem.F.entry_tuple_lt (PySem.F.args_tuple_lt_2 _ _) (ro a b its.toArray iE.toArray n n2 dd Jx sl E8 as bs (ja r1) (ja r2) hk)
  ⟨ho,Iv,show Value.bool (lI as bs) ≠ Value.notImplemented/\_ from ⟨(fun x=>nomatch x),.bl (lI as bs),H,I,rfl,q⟩⟩ hu
theorem GI {a b:Addr} {as bs:List At} (h1:SqT K H a (as.map MB)) (h2:SqT K H b (bs.map MB)) (h3:qH as bs) (h:Q (.bl (lI as bs)) H):J5 K (.ref a) (.ref b) H Q:=⟨a,b,as,bs,rfl,rfl,h1,h2,h3,h⟩
end
section
variable {X:Cx} {K:W.Frag} {σ:St} {H:Hp} {Q:VK} {o i value:Expr} {td ty tv:TE} {pos pos':Pos}
theorem EH:BE X (.Dict [] [] pos) vX:=⟨Bd⟩
theorem Cr (hu:X.A.units + 1 < cLine) (ho:BE X o td) (hi:BE X i ty) (hv:BE X value tv) (hs:swapsWith value (some (.Subscript o i pos')) pos.line X.env = pure false:=by rfl):BS X (.Assign [.Subscript o i pos'] value pos) (xE td ty tv):=⟨DD hu ho.h hi.h hv.h hs⟩
theorem EI (hu:X.A.units + 1 < cLine) (ho:BE X o td) (hi:BE X i ty) (hs:Jb i):BE X (.Subscript o i pos) (zZ td ty):=⟨DR hu ho.h hi.h hs⟩
instance zz3 {D:Ends}:bH (xE td ty tv D σ H) (tv σ H fun v H1=>td σ H1 fun x H2=>ty σ H2 fun y H3=>∃ a H4,x = .ref a/\DPut H3 a y v H4/\D.nx σ H4):=⟨id⟩
instance zz4:bH (zZ td ty σ H Q) (td σ H fun x H1=>ty σ H1 fun y H2=>∃ a v,x = .ref a/\DGet H2 a y (some v)/\Q v H2):=⟨id⟩
instance zz5 {t:TA} {tk:TE}:bH (vW X t tk σ H Q) (t σ H fun vs H1=>tk σ H1 fun f H2=>oa X vs f H2 Q):=⟨id⟩
theorem AS (h:∀ p H1,H p = none->Same H H1->H1 p = some (.dT [])->Q (.ref p) H1):vX σ H Q:=fun p hp=>h p _ hp (bh hp) aC
theorem AR {a b:Addr} {az:List (List Key × V)} {k:List Key} {v:V} {F:Hp->Prop} (e:H a = some (.dT az)) (eb:H b = some (.tup (k.map kV))) (hl:az.length < sizeLine) (h:F (upd H a (.dT (putK az k v)))):∃ a' H4,V.ref a = .ref a'/\DPut H a' (.ref b) v H4/\F H4:=⟨a,_,rfl,DPut.t e eb hl,h⟩
end
end L2
namespace SW
open PySem PySem.SetTable
variable {xs:Array Nat} {j:Nat} {α:Type} {t:SetTable} {h:Int}
abbrev pK (xs:Array Nat):Prop:=xs.toList.Pairwise (· < ·)
theorem rG (h:pK xs) {i k:Nat} (hik:i < k) (hk:k < xs.size):xs[i]'(by omega) < xs[k]:=by
 have:=List.pairwise_iff_getElem.mp h i k (by rw [Array.length_toList];omega) (by rw [Array.length_toList];omega) hik;simpa using this
theorem Cv (hr : pK xs) : ∀ (f lo hi : Nat), lo <= hi -> hi <= xs.size -> hi - lo <= f -> (∀ i (h : i < xs.size), i < lo -> xs[i] < j) -> (∀ i (h : i < xs.size), hi <= i -> j <= xs[i]) ->
    below.go xs j f lo hi <= xs.size/\(∀ i (h:i < xs.size),i < below.go xs j f lo hi->xs[i] < j)/\∀ i (h:i < xs.size),below.go xs j f lo hi <= i->j <= xs[i]:=by
 intro f
 induction f with
 | zero =>
  intro lo hi h1 h2 h3 h4 h5;unfold below.go;have:lo = hi:=by omega
  subst this;exact ⟨h2,h4,h5⟩
 | succ f ih =>
  intro lo hi h1 h2 h3 h4 h5;unfold below.go
  by_cases hl:lo < hi
  ·rw [if_pos hl];dsimp only;have hm:(lo + hi) / 2 < xs.size:=by omega
   have e:xs.getD ((lo + hi) / 2) j = xs[(lo + hi) / 2]:=by simp [Array.getD,hm]
   rw [e]
   by_cases hx:xs[(lo + hi) / 2] < j
   ·rw [if_pos hx];refine ih _ _ (by omega) h2 (by omega) (fun i h Js=>?_) h5
    by_cases Te:i = (lo + hi) / 2
    ·subst Te;exact hx
    ·exact Nat.lt_trans (rG hr (show i < (lo + hi) / 2 by omega) hm) hx
   ·rw [if_neg hx];refine ih _ _ (by omega) (by omega) (by omega) h4 (fun i h Js=>?_)
    by_cases Te:i = (lo + hi) / 2
    ·subst Te;omega
    ·have:=rG hr (show (lo + hi) / 2 < i by omega) h;omega
  ·rw [if_neg hl];have:lo = hi:=by omega
   subst this;exact ⟨h2,h4,h5⟩
theorem jS (hr:pK xs):below xs j <= xs.size/\(∀ i (h:i < xs.size),i < below xs j->xs[i] < j)/\∀ i (h:i < xs.size),below xs j <= i->j <= xs[i]:=by
 unfold below;exact Cv hr _ _ _ (Nat.zero_le _) (Nat.le_refl _) (by omega) (fun i h z=>by omega) (fun i h z=>by omega)
theorem jq (xs:Array α) (p:Nat) (x:α):(insertAt xs p x).toList = xs.toList.take p ++ x :: xs.toList.drop p:=by
 unfold insertAt;simp [List.take_of_length_le]
theorem insertAt_perm (xs:Array α) (p:Nat) (x:α):(insertAt xs p x).toList.Perm (xs.toList ++ [x]):=by
 rw [jq];refine (List.perm_middle).trans ?_;rw [List.take_append_drop];exact (List.perm_append_singleton x xs.toList).symm
theorem we (hr:pK xs) (hn:xs[below xs j]? ≠ some j):pK (insertAt xs (below xs j) j):=by
 obtain ⟨h1,h2,h3⟩:=jS (j:=j) hr;unfold pK;rw [jq,List.pairwise_append];refine ⟨hr.sublist (List.take_sublist _ _),?_,fun a ha b hb=>?_⟩
 ·rw [List.pairwise_cons];refine ⟨fun b hb=>?_,hr.sublist (List.drop_sublist _ _)⟩;obtain ⟨i,hi,e⟩:=List.getElem_of_mem hb;rw [List.getElem_drop] at e;rw [List.length_drop,Array.length_toList] at hi;have h4:=h3 (below xs j + i) (by omega) (by omega);rw [Array.getElem_toList] at e;rw [<- e]
  by_cases z:j = xs[below xs j + i]
  ·cases i with
   | zero=>exact absurd (by rw [Array.getElem?_eq_getElem (by omega)];exact congrArg some z.symm) hn
   | succ i =>
    have h5:=h3 (below xs j) (by omega) (Nat.le_refl _);have h6:=rG hr (show below xs j < below xs j + (i + 1) by omega) (by omega);omega
  ·omega
 ·obtain ⟨i,hi,e⟩:=List.getElem_of_mem ha;rw [List.getElem_take] at e;rw [List.length_take,Array.length_toList] at hi;rw [Array.getElem_toList] at e;have ha':a < j:=by rw [<- e];exact h2 i (by omega) (by omega)
  rcases List.mem_cons.mp hb with rfl | hb
  ·exact ha'
  ·obtain ⟨k,hk,e'⟩:=List.getElem_of_mem hb;rw [List.getElem_drop] at e';rw [List.length_drop,Array.length_toList] at hk;rw [Array.getElem_toList] at e';have:=h3 (below xs j + k) (by omega) (by omega);omega
theorem xa (hr:pK xs) {i:Nat} (h:i < xs.size):below xs (xs[i] + 1) = i + 1:=by
 obtain ⟨h1,h2,h3⟩:=jS (j:=xs[i] + 1) hr
 by_cases a:below xs (xs[i] + 1) <= i
 ·have:=h3 i h a;omega
 ·by_cases b:i + 1 < below xs (xs[i] + 1)
  ·have:=h2 (i + 1) (by omega) b;have:=rG hr (show i < i + 1 by omega) (by omega);omega
  ·omega
theorem w6 (hr:pK xs):below xs 0 = 0:=by
 obtain ⟨h1,h2,h3⟩:=jS (j:=0) hr
 by_cases a:below xs 0 = 0
 ·exact a
 ·have:=h2 0 (by omega) (by omega);omega
def MJ (t:SetTable) (j:Nat):Prop:=t.place[below t.place j]? ≠ some j
theorem yb (h:∀ i,t.slot j ≠ .live i):MJ t j:=fun z=>by
 refine h (below t.place j) ?_;unfold SetTable.slot;dsimp only;rw [if_pos (by rw [z];exact beq_self_eq_true _)]
theorem A6 : ∀ (f : Nat) (p : Probe), (∀ d, p.dummy = some d -> ∀ i, t.slot d ≠ .live i) -> ∀ m, probe.go t (fun _ => h + 1) h f p = some m ->
    ∃ j d,m = .empty j d/\(∀ i,t.slot j ≠ .live i)/\∀ e,d = some e->∀ i,t.slot e ≠ .live i:=by
 intro f
 induction f with
 | zero=>intro p hd m e;unfold probe.go at e;cases e
 | succ f ih =>
  intro p hd m e;unfold probe.go at e;have YI:∀ q:Probe,(t.advance q).dummy = q.dummy:=fun q=>by
   unfold SetTable.advance
   split <;> rfl
  split at e
  ·next hs =>
   cases e
   exact ⟨_,_,rfl,(fun i z=>by rw [hs] at z;cases z),hd⟩
  ·next hs =>
   refine ih _ (fun d BZ=>?_) m e;rw [YI] at BZ
   cases BZ
   intro i z;rw [hs] at z
   cases z
  ·next i hs =>
   rw [if_neg (by simp;omega)] at e;refine ih _ (fun d BZ=>?_) m e;rw [YI] at BZ;exact hd d BZ
theorem zk {b:Bool} (e:t.freeSlot h = some (j,b)):MJ t j:=by
 unfold SetTable.freeSlot at e
 split at e
 ·next j' d hp =>
  obtain ⟨j2,d2,e2,h1,h2⟩:=A6 _ _ (fun d z=>by cases z) _ hp
  cases e2
  cases d with
  | none=>cases e;exact yb h1
  | some d=>cases e;exact yb (h2 d rfl)
 ·cases e
theorem iT (n:Nat):pK (Array.range n):=by
 unfold pK;rw [Array.toList_range];exact List.pairwise_lt_range
theorem eR (t:SetTable) (n:Nat):(t.standIn n).fits n = true:=by
 unfold SetTable.fits SetTable.standIn SetTable.fill;simp;omega
abbrev SE:=Array (Int × Value)
variable {es:SE}
theorem rN {n:Nat} (hr:pK t.place):pK (t.orStandIn n).place/\(t.orStandIn n).led = t.led/\(t.orStandIn n).fits n = true:=by
 unfold SetTable.orStandIn
 by_cases h:t.fits n = true
 ·rw [if_pos h];exact ⟨hr,rfl,h⟩
 ·rw [if_neg h];exact ⟨iT _,rfl,eR _ _⟩
theorem y3 {x:Value} (hr:pK t.place):(layNew t es h x).1.toList.Perm (es.toList ++ [(h,x)])/\pK (layNew t es h x).2.1.place/\(layNew t es h x).2.1.led = t.led/\(layNew t es h x).2.1.fits (layNew t es h x).1.size = true:=by
 unfold layNew
 cases e:t.freeSlot h with
 | some r =>
  obtain ⟨j,b⟩:=r;have hp:pK (t.put j).1.place:=we hr (zk e);obtain ⟨h1,h2,h3⟩:=rN (n:=(insertAt es (t.put j).2 (h,x)).size) hp;exact ⟨insertAt_perm _ _ _,h1,h2,h3⟩
 | none =>
  refine ⟨?_,iT _,rfl,?_⟩
  ·show (es.push (h,x)).toList.Perm _;rw [Array.toList_push]
  ·show (t.standIn (es.size + 1)).fits (es.push (h,x)).size = true;rw [show (es.push (h,x)).size = es.size + 1 by simp];exact eR _ _
theorem AG {mask finger moves:Nat} {led plain:Bool} {hs:Array Int} {order:Array Nat} (e:laid mask finger moves led plain hs = some (t,order)):pK t.place/\t.led = led:=by
 unfold laid at e;obtain ⟨owner,_,e⟩:=Option.bind_eq_some_iff.mp e
 cases e
 refine ⟨?_,rfl⟩;unfold pK;dsimp only;rw [List.map_filterMap];refine List.Pairwise.filterMap _ ?_ List.pairwise_lt_range;intro a a' haa b hb b' Ep
 cases h1:owner.getD a none with
 | none=>rw [h1] at hb;cases hb
 | some u =>
  cases h2:owner.getD a' none with
  | none=>rw [h2] at Ep;cases Ep
  | some u' =>
   rw [h1] at hb;rw [h2] at Ep
   cases hb;cases Ep
   exact haa
theorem B5 {α β:Type} {f:β->Option α}:∀ {l:List β} {r:List α},l.map f = r.map some->l.filterMap f = r
 | [],[],_=>rfl
 | [],_ :: _,h=>by simp at h
 | _ :: _,[],h=>by simp at h
 | b :: l,a :: r,h=>by
  simp only [List.map_cons,List.cons.injEq] at h;rw [List.filterMap_cons,h.1];exact congrArg (a :: ·) (B5 h.2)
theorem range_items (es:Array α):(List.range es.size).filterMap (fun i=>es[i]?) = es.toList:=by
 have e:(List.range es.size).map (fun i=>es[i]?) = es.toList.map some:=by
  apply List.ext_getElem
  ·simp
  ·intro i h1 h2;simp at h1;simp [h1]
 exact B5 e
theorem ua {n:Nat}:(relayAll t es n).1.toList.Perm es.toList/\pK (relayAll t es n).2.1.place/\(relayAll t es n).2.1.led = t.led/\(relayAll t es n).2.1.fits (relayAll t es n).1.size = true:=by
 unfold relayAll
 split
 ·next t' order e =>
  dsimp only
  split
  ·next hc =>
   rw [Bool.and_eq_true] at hc;obtain ⟨h1,h2⟩:=AG (show laid _ _ _ _ _ _ = some (t',order) from e);refine ⟨?_,h1,h2,hc.2⟩;have hp:order.toList.Perm (List.range es.size):=List.isPerm_iff.mp hc.1;dsimp only;rw [Array.toList_filterMap];refine (hp.filterMap _).trans ?_;rw [range_items]
  ·exact ⟨.refl _,iT _,rfl,eR _ _⟩
 ·exact ⟨.refl _,iT _,rfl,eR _ _⟩
section
variable {prog:Program} {w:World} {κ:Type} [DecidableEq κ] (kd:KeyKind prog w κ)
def vC (k:κ) (e:Int × Value):Prop:=kd.is k e.2 = true/\e.1 = kd.hash k/\e.2.scannable = true
def qI (w:World):Bool:=!(w.params.followText "set-order")
def SetW (h:Heap) (a:Addr) (ks:List κ):Prop :=
 ∃ (o:Obj) (es:SE) (ep:Nat) (t:SetTable) (L:List (κ × (Int × Value))),h.get? a = some o/\o.ExactSet/\o.data = .set es ep t/\L.map (·.2) = es.toList/\(L.map (·.1)).Perm ks/\(∀ p ∈ L,vC kd p.1 p.2)/\es.size < scanBound/\t.fits es.size = true/\pK t.place/\t.led = qI w
variable {kd} {A:Around} {E:Value->Shared->Prop} {s:Shared} {a:Addr} {ks:List κ} {k:κ} {x:Value}
theorem B9 {L:List (κ × (Int × Value))} (l1:L.map (·.2) = es.toList) (l3:∀ p ∈ L,vC kd p.1 p.2):ElemsOf kd es.toList:=fun e he=>by
 rw [<- l1] at he;obtain ⟨p,hp,rfl⟩:=List.mem_map.mp he;obtain ⟨a1,a2,a3⟩:=l3 p hp;exact ⟨⟨p.1,a1,a2⟩,a3⟩
theorem SetW.kept {h h':Heap} (S:SetW kd h a ks) (e:∀ o,h.get? a = some o->h'.get? a = some o):SetW kd h' a ks:=by
 obtain ⟨o,es,ep,t,L,ho,r⟩:=S;exact ⟨o,es,ep,t,L,e o ho,r⟩
theorem tL {h : Heap} {o : Obj} {es1 : SE} {ep : Nat} {t1 : SetTable} {L : List (κ × (Int × Value))} (ho : h.get? a = some o) (hx : o.ExactSet) (hd : o.data = .set es ep t) (l1 : L.map (·.2) = es1.toList) (l2 : (L.map (·.1)).Perm ks) (l3 : ∀ p ∈ L, vC kd p.1 p.2)
    (hb:es1.size < scanBound) (hf:t1.fits es1.size = true) (hr:pK t1.place) (hl:t1.led = qI w):(h.update a (Obj.putSet es1 t1)).get? a = some { o with data:=.set es1 (ep + 1) t1 }/\SetW kd (h.update a (Obj.putSet es1 t1)) a ks:=by
 have g:(h.update a (Obj.putSet es1 t1)).get? a = some { o with data:=.set es1 (ep + 1) t1 }:=by
  have z:=Heap.get?_update_self (Obj.putSet es1 t1) ho (by rw [putSet_of es1 t1 hd];rfl)
  rwa [putSet_of es1 t1 hd] at z
 exact ⟨g,_,es1,ep + 1,t1,L,g,hx,rfl,l1,l2,l3,hb,hf,hr,hl⟩
theorem xq {g : Bool -> Sem Unit} (hg : ∀ (b : Bool) (s1 : Shared) (P : Unit -> Shared -> Prop), P () s1 -> wpAny (model prog w) A (g b) P E s1) {o : Obj} {es1 : SE} {ep : Nat} {t1 : SetTable} {L : List (κ × (Int × Value))} (ho : s.heap.get? a = some o) (hx : o.ExactSet) (hd : o.data = .set es ep t)
    (l1:L.map (·.2) = es1.toList) (l2:(L.map (·.1)).Perm ks) (l3:∀ p ∈ L,vC kd p.1 p.2) (hb:es1.size < scanBound) (hf:t1.fits es1.size = true) (hr:pK t1.place) (hl:t1.led = qI w) {wd:Bool} {R:Option Bool->Shared->Prop}
    (q:∀ h',Heap.SameBut a s.heap h'->SetW kd h' a ks->R (some true) { s with heap:=h' }) :
    wpAny (model prog w) A (do
        storeSet a es1 t1
        if (!wd && t1.tooFull) = true then do
            g (relayAll t1 es1 (SetTable.grown es1.size)).2.2
            storeSet a (relayAll t1 es1 (SetTable.grown es1.size)).1 (relayAll t1 es1 (SetTable.grown es1.size)).2.1
            pure (some true)
         else pure (some true)) R E s:=by
 refine wpAny_bind (wpAny_storeSet_of ho hd ?_ (fits_of_scanBound hb));obtain ⟨g1,S1⟩:=tL (kd:=kd) ho hx hd l1 l2 l3 hb hf hr hl;have b1:=Heap.SameBut.update s.heap a (Obj.putSet es1 t1)
 by_cases c:(!wd && t1.tooFull) = true
 ·rw [if_pos c];obtain ⟨r1,r2,r3,r4⟩:=ua (t:=t1) (es:=es1) (n:=SetTable.grown es1.size);generalize relayAll t1 es1 (SetTable.grown es1.size) = z at r1 r2 r3 r4 ⊢;obtain ⟨L2,p1,p2⟩:=L2.perm_lift (r1.trans (.of_eq l1.symm)) L rfl;have hz:z.1.size = es1.size:=by simpa using r1.length_eq
  refine wpAny_bind (hg _ _ _ ?_);refine wpAny_bind (wpAny_storeSet_of g1 rfl ?_ (fits_of_scanBound (by rw [hz];exact hb)));obtain ⟨_,S2⟩:=tL (kd:=kd) (es1:=z.1) (t1:=z.2.1) g1 hx rfl p2.symm ((p1.map _).trans l2) (fun p hp=>l3 p (p1.mem_iff.mp hp)) (by rw [hz];exact hb) r4 r2 (r3.trans hl)
  exact wpAny_pure (q _ (b1.trans (Heap.SameBut.update _ a _)) S2)
 ·rw [if_neg c];exact wpAny_pure (q _ b1 S1)
theorem Gb {Q : Bool -> Shared -> Prop} (hk : kd.is k x = true) (hs : x.scannable = true) (S : SetW kd s.heap a ks) (room : ks.length + 1 < scanBound) (q : ∀ b h', Heap.SameBut a s.heap h' -> SetW kd h' a (if k ∈ ks then ks else ks ++ [k]) -> Q b { s with heap := h' }) :
    wpAny (model prog w) A (setAddHashed a x (kd.hash k)) Q E s:=by
 obtain ⟨o,es,ep,t,L,ho,hx,hd,l1,l2,l3,hb,hf,hr,hl⟩:=S;have el:=B9 l1 l3;have len:es.size = ks.length:=by
  have e1:=congrArg List.length l1;have e2:=l2.length_eq;simp only [List.length_map,Array.length_toList] at e1 e2;omega
 unfold setAddHashed setAddHashedIn;refine wpAny_holding (wpAny_bind (wpAny_setState_of ho hd hf ?_));dsimp only;rw [byScan_of hs hb el];simp only [↓reduceIte];unfold setAddByScan;refine wpAny_bind (wpAny_bind (wpAny_rule (wpAny_bind (wpAny_setScan_of hk ho hd hf el ?_))))
 cases e:List.findIdx? (fun e=>kd.is k e.2) es.toList with
 | some j =>
  obtain ⟨hj,hp,_⟩:=List.findIdx?_eq_some_iff_getElem.mp e;have hm:k ∈ ks:=by
   have uR:es.toList[j] ∈ L.map (·.2):=by rw [l1];exact List.getElem_mem hj
   obtain ⟨p,pI,e2⟩:=List.mem_map.mp uR;rw [<- e2] at hp;rw [kd.inj _ _ _ hp (l3 p pI).1];exact l2.mem_iff.mp (List.mem_map.mpr ⟨p,pI,rfl⟩)
  refine wpAny_pure (wpAny_pure ?_);have z:=q false s.heap (Heap.SameBut.refl a s.heap);rw [if_pos hm] at z;exact z ⟨o,es,ep,t,L,ho,hx,hd,l1,l2,l3,hb,hf,hr,hl⟩
 | none =>
  have hm:k ∉ ks:=fun z=>by
   obtain ⟨p,hp,e2⟩:=List.mem_map.mp (l2.mem_iff.mpr z);have:=List.findIdx?_eq_none_iff.mp e p.2 (by rw [<- l1];exact List.mem_map.mpr ⟨p,hp,rfl⟩);rw [<- e2,(l3 p hp).1] at this
   cases this
  obtain ⟨n1,n2,n3,n4⟩:=y3 (t:=t) (es:=es) (h:=kd.hash k) (x:=x) hr;dsimp only;generalize layNew t es (kd.hash k) x = z at n1 n2 n3 n4 ⊢;obtain ⟨L',p1,p2⟩:=L2.perm_lift n1 (L ++ [(k,(kd.hash k,x))]) (by rw [List.map_append,l1];rfl);obtain ⟨es1,t1,wd,gv⟩:=z;dsimp only at n1 n2 n3 n4 p2 ⊢;have m2:(L'.map (·.1)).Perm (ks ++ [k]):=by
   refine (p1.map _).trans ?_;rw [List.map_append];exact l2.append_right _
  have m3:∀ p ∈ L',vC kd p.1 p.2:=fun p hp=>by
   rcases List.mem_append.mp (p1.mem_iff.mp hp) with h | h
   ·exact l3 p h
   ·rw [List.mem_singleton.mp h];exact ⟨hk,rfl,hs⟩
  have mz:es1.size < scanBound:=by
   have:=n1.length_eq;simp only [Array.length_toList,List.length_append,List.length_cons,List.length_nil] at this;omega
  have Tf:∀ (b:Bool) (s1:Shared) (P:Unit->Shared->Prop),P () s1->wpAny (model prog w) A (match b with | true=>rule "set.scan.the-table-gave-way" | false=>pure ()) P E s1:=fun b s1 P h=>by
   cases b
   ·exact wpAny_pure h
   ·exact wpAny_rule h
  have fin:∀ h',Heap.SameBut a s.heap h'->SetW kd h' a (ks ++ [k])->Q true { s with heap:=h' }:=fun h' b1 S'=>q true h' b1 (by rw [if_neg hm];exact S')
  refine wpAny_bind (Tf _ _ _ ?_)
  by_cases pl:t1.plain = true
  ·rw [if_pos pl];refine wpAny_bind ?_;rw [hashByValue_scannable 8 hs];refine wpAny_pure (xq (kd:=kd) Tf ho hx hd p2.symm m2 m3 mz ?_ ?_ ?_ fun h' b1 S'=>wpAny_pure (fin h' b1 S'))
   ·split
    ·exact n4
    ·exact SetTable.fits_plain_off n4
   ·split <;> exact n2
   ·split <;> exact n3.trans hl
  ·rw [if_neg pl];refine wpAny_bind (wpAny_pure ?_);simp only [↓reduceIte];exact xq (kd:=kd) Tf ho hx hd p2.symm m2 m3 mz n4 n2 (n3.trans hl) fun h' b1 S'=>wpAny_pure (fin h' b1 S')
end
end SW
namespace SW
open PySem PySem.Spec PySem.SetTable PyProof.Rows
variable {κ:Type}
def iw [DecidableEq κ] (ks:List κ) (k:κ):List κ:=if k ∈ ks then ks else ks ++ [k]
def onces [DecidableEq κ] (ks:List κ):List κ:=ks.foldl iw []
theorem Bl [DecidableEq κ] (ks:List κ) (k:κ):(iw ks k).length <= ks.length + 1:=by
 unfold iw
 split
 ·omega
 ·rw [List.length_append];exact Nat.le_refl _
theorem wB [DecidableEq κ] (ks:List κ) (k:κ):onces (ks ++ [k]) = iw (onces ks) k:=by
 unfold onces;rw [List.foldl_append]
 rfl
theorem iY {κ:Type} [DecidableEq κ]:∀ (ks acc:List κ),acc.Nodup->(ks.foldl iw acc).Nodup/\(ks.foldl iw acc).length <= acc.length + ks.length/\∀ x,x ∈ ks.foldl iw acc ↔ x ∈ acc \/ x ∈ ks
 | [],acc,h=>⟨h,Nat.le_refl _,fun x=>by simp⟩
 | k :: ks,acc,h=>by
  have hn:(iw acc k).Nodup:=by
   unfold iw
   split
   ·exact h
   ·next hk =>
    rw [List.nodup_append];exact ⟨h,List.pairwise_singleton _ _,fun a ha b hb e=>hk (by rw [List.mem_singleton.mp hb] at e;rw [<- e];exact ha)⟩
  obtain ⟨a,b,c⟩:=iY ks (iw acc k) hn;have:=Bl acc k;refine ⟨a,by rw [List.foldl_cons,List.length_cons];omega,fun x=>?_⟩
  rw [List.foldl_cons,c x,List.mem_cons];unfold iw
  split
  ·next hk =>
   constructor
   ·rintro (h | h)
    ·exact .inl h
    ·exact .inr (.inr h)
   ·rintro (h | h | h)
    ·exact .inl h
    ·rw [h];exact .inl hk
    ·exact .inr h
  ·rw [List.mem_append,List.mem_singleton]
   constructor
   ·rintro ((h | h) | h)
    ·exact .inl h
    ·exact .inr (.inl h)
    ·exact .inr (.inr h)
   ·rintro (h | h | h)
    ·exact .inl (.inl h)
    ·exact .inl (.inr h)
    ·exact .inr h
theorem onces_nd [DecidableEq κ] (ks:List κ):(onces ks).Nodup:=(iY ks [] List.nodup_nil).1
theorem onces_le [DecidableEq κ] (ks:List κ):(onces ks).length <= ks.length:=by unfold onces;simpa using (iY ks [] List.nodup_nil).2.1
theorem onces_mem [DecidableEq κ] (ks:List κ) (x:κ):x ∈ onces ks ↔ x ∈ ks:=by unfold onces;simpa using (iY ks [] List.nodup_nil).2.2 x
section
variable {prog:Program} {w:World} [DecidableEq κ] {kd:KeyKind prog w κ} {A:Around} {R:Result->Shared->Prop} {E:Value->Shared->Prop} {s:Shared}
theorem C0 {I Sa l : Addr} {its : Array Value} {ks : List κ} (hh : A.handled = none) (hlI : l ≠ I) (Tw : Sa ≠ I) (hSl : Sa ≠ l) (hz : its.size = ks.length) (hit : ∀ (i : Nat) (v : Value), its[i]? = some v -> ∃ k, ks[i]? = some k /\ kd.is k v = true /\ v.scannable = true) (hb : ks.length + 1 < scanBound) :
    ∀ (m i:Nat) (s:Shared),ks.length - i = m->i <= ks.length->s.heap.IsListIter I l i->s.heap.IsList l its->SetW kd s.heap Sa (onces (ks.take i)) ->
     (∀ h' tk,(∀ b o,b ≠ Sa->b ≠ I->s.heap.get? b = some o->h'.get? b = some o)->SetW kd h' Sa (onces ks)->R (.ok (.ret .none)) { s with heap:=h',toks:=tk }) ->
     codeAny (model prog w) A (.builtin "set.update.loop" ⟨[.ref Sa,.ref I],[]⟩) R s:=by
 intro m
 induction m with
 | zero =>
  intro i s hm hi st hl S q;have e:i = ks.length:=by omega
  rw [e,List.take_length] at S;refine codeAny_builtin F.entry_set_update_loop ?_;rw [Around.under_plainId F.plain_set_update_loop _];show wpAny _ A.in1 (pyNext (.ref I) >>= _) _ _ s;refine wpAny_bind (wpAny_pyNext_list_end (A:=A.in1) (by simpa using hh) st hl (by simp;omega) fun h' eb=>?_)
  show wpAny _ A.in1 (ret Value.none) _ _ _;exact wpAny_pure (q h' s.toks (fun b o _ n z=>eb b o n z) (S.kept fun o z=>eb Sa o Tw z))
 | succ m ih =>
  intro i s hm hi st hl S q;have eQ:i < its.size:=by omega
  obtain ⟨k,hk,uT,ny⟩:=hit i _ (Array.getElem?_eq_getElem eQ);refine codeAny_builtin F.entry_set_update_loop ?_;rw [Around.under_plainId F.plain_set_update_loop _];show wpAny _ A.in1 (pyNext (.ref I) >>= _) _ _ s;refine wpAny_bind (wpAny_pyNext_list_item (A:=A.in1) st hl (Array.getElem?_eq_getElem eQ) fun h' bj sb=>?_)
  generalize its[i] = v at uT ny;show wpAny _ A.in1 (holding [v] (setAdd Sa v) >>= _) _ _ _;refine wpAny_bind (wpAny_holding ?_);unfold setAdd;refine wpAny_holding (wpAny_bind (kd.pyHash uT ?_));have S1:SetW kd h' Sa (onces (ks.take i)):=S.kept fun o z=>(sb.2 Sa Tw).trans z
  have rm:(onces (ks.take i)).length + 1 < scanBound:=by
   have:=onces_le (ks.take i);rw [List.length_take] at this;omega
  refine Gb (kd:=kd) (s:={ s with heap:=h',toks:=s.toks + 1 }) uT ny S1 rm fun b h2 b2 S2=>?_
  have S3:SetW kd h2 Sa (onces (ks.take (i + 1))):=by
   obtain ⟨Js,e⟩:=List.getElem?_eq_some_iff.mp hk;rw [List.take_succ_eq_append_getElem Js,e,wB];exact S2
  have k2:∀ b o,b ≠ Sa->h'.get? b = some o->h2.get? b = some o:=fun b o n z=>(b2.2 b n).trans z
  refine wpAny_pure ⟨plainId_quiet F.plain_set_update_loop _,ih (i + 1) _ (by omega) (by omega) (bj.at fun o z=>k2 I o (Ne.symm Tw) z) ?_ S3 fun h3 tk k3 S4=>?_⟩
  ·obtain ⟨o,z,r⟩:=hl;exact ⟨o,k2 l o (Ne.symm hSl) ((sb.2 l hlI).trans z),r⟩
  ·exact q h3 tk (fun b o n1 n2 z=>k3 b o n1 n2 (k2 b o n1 ((sb.2 b n2).trans z))) S4
theorem Ac {h:Heap} {a:Addr} (e:h.get? a = some { cls:=.type "set",dict:=none,data:=.set #[] 0 (.fresh 0 0 (qI w)) }):SetW kd h a [] :=
 ⟨_,#[],0,_,[],e,⟨rfl,rfl,rfl⟩,rfl,rfl,.nil,fun p hp=>(nomatch hp),by unfold scanBound;decide,rfl,List.Pairwise.nil,rfl⟩
end
end SW
namespace SW
open PySem PySem.Spec PySem.SetTable
variable {prog:Program} {w:World} {A:Around} {s:Shared} {α:Type}
section
variable {κ:Type} [DecidableEq κ] {kd:KeyKind prog w κ} {E:Value->Shared->Prop}
abbrev gJ (w:World):Obj:={ cls:=.type "set",dict:=none,data:=.set #[] 0 (.fresh 0 0 (qI w)) }
theorem Ga (v:Value) {P:Value->Shared->Prop} (q:P (.ref s.heap.objs.size) { s with heap:=s.heap.push (gJ w) }):codeAny (model prog w) A (.call (.builtin "set.__new__") ⟨[.type "set",v],[]⟩) (wants P E) s:=by
 refine codeAny_of_tree (show wpAny _ A.in1 (do checkBuiltinCall "set.__new__" ⟨[.type "set",v],[]⟩;again (.builtin "set.__new__" ⟨[.type "set",v],[]⟩)) _ _ s from ?_);refine wpAny_bind (wpAny_of_eq (F.newCall_set_1 v) (wpAny_pure ⟨plainId_quiet F.plain_set_new _,codeAny_builtin F.entry_set_new (show wpAny _ _ _ _ _ s from ?_)⟩));rw [Around.under_plainId F.plain_set_new _];unfold Builtin.«set.__new__» Builtin.Frozenset.newClass;have subs:=sub_set_self;obtain ⟨h0,g0,d0,k0,o0⟩:=s;dsimp only
 wp_walk
 refine wpAny_askSetting (wpAny_pure ?_);dsimp only;simp only [newObj];exact wpAny_bind (wpAny_alloc (wpAny_pure (wpAny_pure q)))
theorem sw_set {l : Addr} {its : Array Value} {ks : List κ} {Q : Value -> Shared -> Prop} (hh : A.handled = none) (hl : s.heap.IsList l its) (hz : its.size = ks.length) (hit : ∀ (i : Nat) (v : Value), its[i]? = some v -> ∃ k, ks[i]? = some k /\ kd.is k v = true /\ v.scannable = true) (hb : ks.length + 1 < scanBound)
    (q:∀ h' tk,SetW kd h' s.heap.objs.size (onces ks)->(∀ b o,s.heap.get? b = some o->h'.get? b = some o)->Q (.ref s.heap.objs.size) { s with heap:=h',toks:=tk }):wpAny (model prog w) A (call (.type "set") [.ref l]) Q E s:=by
 obtain ⟨c,tl,m1⟩:=F.called_set.mro;have m2:=F.called_set.made;have m3:=F.called_set.sub;refine wpAny_call (codeAny_of_tree (show wpAny _ _ (callAny (.type "set") _) _ _ _ from wpAny_pure ⟨Code.quiet_builtin _ (by decide +kernel),codeAny_builtin F.entry_type_call ?_⟩));rw [Around.under_plain (weight_type_call_type "set" [.ref l] []) rfl];have m4:=F.called_set.notType;have m5:=F.called_set.canCreate;have m6:=F.typeCall_set_1 (.ref l)
 repeat (any_goals (first | assumption | wp_step))
 refine codeAny_mono (Ga (.ref l) (E:=E) (P:=fun v s1=>v = .ref s.heap.objs.size/\s1 = { s with heap:=s.heap.push (gJ w) }) ⟨rfl,rfl⟩) fun r s1 hr=>?_
 cases r with
 | error e=>exact hr
 | ok fl =>
  cases fl with
  | ret v =>
   obtain ⟨rfl,rfl⟩:=hr;have g1:(s.heap.push (gJ w)).get? s.heap.objs.size = some (gJ w):=Heap.get?_push_size _ rfl;have tS:Shared.TypeIs { s with heap:=s.heap.push (gJ w) } (.ref s.heap.objs.size) "set":=⟨_,g1,rfl⟩;have m7:=F.called_set.init.lookup;have m8:=F.called_set.init.bind (.ref s.heap.objs.size)
   repeat (any_goals (first | assumption | wp_step))
   refine codeAny_mono (codeAny_call_builtin (R:=wants (fun r s2=>r = .none/\∃ h' tk,s2 = { s with heap:=h',toks:=tk }/\SetW kd h' s.heap.objs.size (onces ks)/\∀ b o,s.heap.get? b = some o->h'.get? b = some o) E) F.called_set.init.plain F.entry_set_init (check_set_init_1 tS ?_)) fun r2 s2 SR=>?_
   ·obtain ⟨⟨c1,d1,a1,z1⟩,e1,c2,n1,d2⟩:=hl;simp only at c2 d2;subst c2 d2;have e2:(s.heap.push (gJ w)).get? l = some { cls:=.type "list",dict:=d1,data:=.seq its n1,slots:=z1 }:=Heap.get?_push_of_some _ e1;have n2:=F.sub_list_set;have n3:=F.sub_list_frozenset;have n4:(Value.type "list" == Value.type "dict") = false:=by decide
    have l1:(s.heap.push (gJ w)).IsList l its:=⟨_,e2,rfl,n1,rfl⟩;unfold Builtin.«set.__init__» noKeywords Builtin.Frozenset.updateFrom;generalize hp:pyIter = PI
    wp_walk
    subst hp;refine wpAny_pyIter_list l1 (wpAny_bind (wpAny_runValue ?_));have XF:l < s.heap.objs.size:=Heap.lt_size e1;have zz:(s.heap.push (gJ w)).objs.size = s.heap.objs.size + 1:=Heap.size_push _ _;refine C0 (kd:=kd) (I:=(s.heap.push (gJ w)).objs.size) (l:=l) (its:=its) (by simpa using hh) (by rw [zz];exact Nat.ne_of_lt (Nat.lt_succ_of_lt XF)) (by rw [zz];exact Nat.ne_of_lt (Nat.lt_succ_self _)) (Nat.ne_of_gt XF) hz hit hb ks.length 0 _ rfl (Nat.zero_le _) ⟨_,Heap.get?_push_size _ rfl,rfl,rfl⟩ (l1.push _) (Ac (Heap.get?_push_of_some _ g1)) fun h' tk kp S=>?_
    show wpAny _ _ _ _ _ _;refine wpAny_pure (show wpAny _ _ (ret Value.none) _ _ _ from wpAny_pure ⟨rfl,h',tk,rfl,S,fun b o e=>?_⟩)
    have:=Heap.lt_size e;exact kp b o (Nat.ne_of_lt this) (by rw [zz];exact Nat.ne_of_lt (Nat.lt_succ_of_lt this)) (Heap.get?_push_of_some _ (Heap.get?_push_of_some _ e))
   ·cases r2 with
    | error e=>exact SR
    | ok fl2 =>
     cases fl2 with
     | ret r =>
      obtain ⟨rfl,h',tk,rfl,S,kp⟩:=SR
      repeat (any_goals (first | assumption | wp_step))
      exact q _ _ S kp
     | _=>exact SR.elim
  | _=>exact hr.elim
end
section
variable {E:Value->Shared->Prop}
theorem jE {α:Type}:∀ (l:List α) (i:Nat) (x:α),l[i]? = some x->l.Perm (x :: l.eraseIdx i)
 | [],i,x,h=>by simp at h
 | y :: l,0,x,h=>by simp at h;subst h;exact .refl _
 | y :: l,i + 1,x,h=>by
  have h':l[i]? = some x:=by simpa using h
  rw [List.eraseIdx_cons_succ];exact ((jE l i x h').cons y).trans (.swap x y _)
theorem vQ {src:Source} {n:Nat} {Q:Nat->Shared->Prop} (hn:n ≠ 0) (q:∀ i d,i < n->Q i { s with drawn:=d }):wpAny (model prog w) A (choose src n) Q E s :=
 fun Γ p _=>⟨hn,q _ _ (Nat.mod_lt _ (Nat.pos_of_ne_zero hn))⟩
theorem oT {α:Type}:∀ (n:Nat) (xs:List α) (s:Shared) {Q:List α->Shared->Prop},xs.length = n->(∀ ys d,ys.Perm xs->Q ys { s with drawn:=d })->wpAny (model prog w) A (drawOrder n xs) Q E s
 | 0,xs,s,Q,hl,q=>by
  have e:xs = []:=List.length_eq_zero_iff.mp hl;subst e;unfold drawOrder;exact wpAny_pure (q [] s.drawn .nil)
 | n + 1,xs,s,Q,hl,q=>by
  cases xs with
  | nil=>simp at hl
  | cons x xs =>
   unfold drawOrder;refine wpAny_bind (vQ (by simp) fun i d hi=>?_)
   rw [List.getElem?_eq_getElem hi];dsimp only;have pe:=jE (x :: xs) i _ (List.getElem?_eq_getElem hi);refine wpAny_bind (oT n _ _ (by rw [List.length_eraseIdx_of_lt hi,hl];rfl) fun ys d' pm=>?_)
   exact wpAny_pure (q _ d' ((pm.cons _).trans pe.symm))
theorem xJ {α:Type} (nx:Nat->Nat):∀ (f k:Nat) (l:List α) (out:Array α),l.length = f->(pickOrder.go nx f k l out).toList.Perm (out.toList ++ l)
 | 0,k,l,out,h=>by
  have e:l = []:=List.length_eq_zero_iff.mp h;subst e;unfold pickOrder.go;rw [List.append_nil]
 | f + 1,k,l,out,h=>by
  unfold pickOrder.go;have hi:nx k % l.length < l.length:=Nat.mod_lt _ (by omega);rw [List.getElem?_eq_getElem hi];dsimp only;refine (xJ nx f (k + 1) _ _ (by rw [List.length_eraseIdx_of_lt hi,h];rfl)).trans ?_;rw [Array.toList_push,List.append_assoc];exact List.Perm.append_left _ (jE l _ _ (List.getElem?_eq_getElem hi)).symm
theorem yL (nx:Nat->Nat) (xs:Array α):(pickOrder nx xs).toList.Perm xs.toList:=by
 unfold pickOrder;refine (xJ nx _ 0 _ _ (by simp)).trans ?_;simp
end
local macro_rules | `(term| type_of% $n:ident) => return Lean.mkIdent (Lean.mkPrivateNameCore `PySem.SetOps (`PySem ++ n.getId))
local macro_rules | `(tactic| delta $n:ident) => if Lean.isPrivateName n.getId then Lean.Macro.throwUnsupported else `(tactic| delta $(Lean.mkIdent (Lean.mkPrivateNameCore `PySem.SetOps (`PySem ++ n.getId))):ident)
theorem oQ:entryFor table "set.__iter__" = some Builtin.«frozenset.__iter__»:=entryFor_alias (id':="frozenset.__iter__") (by kernel_rfl) rfl (by decide +kernel) (by kernel_rfl)
theorem cu:Slot "set_iterator" "__next__" "set_iterator.__next__":=.of (owner:="set_iterator") (n:="__next__") (by rw [typeLookup_type,builtinLookup_eq_fast];kernel_rfl) (by decide +kernel) (by decide +kernel) (by decide +kernel) (by first | exact .inl (by decide +kernel) | exact .inr (by decide +kernel)) (by rw [isSubtype_type];kernel_rfl)
theorem jr:entryFor table "set_iterator.__next__" = some Builtin.«set_iterator.__next__»:=entryFor_of_tree (by kernel_rfl)
theorem kH (a:Value):argsOk "set_iterator.__next__" ⟨[a],[]⟩:=by unfold argsOk;kernel_rfl
def dr (es:SE) (t:SetTable):Bool:=(type_of% drawn) es t
def IsSI (h:Heap) (it:Addr) (first:Value) (i:Nat) (a:Addr) (n ep:Nat):Prop:=∃ o,h.get? it = some o/\o.cls = .type "set_iterator"/\o.data = .fields #[first,.int i 0,.ref a,.int n 0,.int ep 0]
section
variable {E:Value->Shared->Prop} {a it:Addr} {o:Obj} {es:SE} {ep:Nat} {t:SetTable}
theorem Az {Q : Value -> Shared -> Prop} (ho : s.heap.get? a = some o) (hx : o.ExactSet) (hd : o.data = .set es ep t) (hf : t.fits es.size = true) (hz : es.size < scanBound)
    (q:∀ first d h' M1,(∀ b u,s.heap.get? b = some u->h'.get? b = some u)->s.heap.objs.size <= M1->IsSI h' M1 first 0 a es.size ep ->
     ((first = .int 0 0/\(w.params.followText "set-order" = true \/ dr es t = false)) \/ (∃ (tp:Addr) (ps:List Nat),first = .ref tp/\s.heap.objs.size <= tp/\tp ≠ M1/\h'.get? tp = some { cls:=.type "tuple",data:=.seq (ps.map fun (i:Nat)=>Value.int i 0).toArray }/\ps.Perm (List.range es.size))) ->
     Q (.ref M1) { s with heap:=h',drawn:=d }):wpAny (model prog w) A (pyIter (.ref a)) Q E s:=by
 have ty:s.TypeIs (.ref a) "set":=⟨o,ho,hx.1⟩;have hs:es.size <= sizeLine:=fits_of_scanBound hz;refine wpAny_pyIter_slot ty F.slot_set_iter (wpAny_call_entry F.slot_set_iter ty oQ ?_ (F.args_set_iter_1 _));show wpAny _ _ (Builtin.Frozenset.slot0 "__iter__" { pos:=[.ref a] } >>= _) _ _ _;refine wpAny_bind (wpAny_of_eq (show Builtin.Frozenset.slot0 "__iter__" { pos:=[.ref a] } = pure a from rfl) ?_);refine wpAny_bind (show wpAny _ _ (Builtin.Frozenset.sizeOf a) _ _ _ from wpAny_bind (wpAny_setEntries_of ho hd hf (wpAny_pure ?_)));refine wpAny_bind ?_;unfold setDrawn setsByText;refine wpAny_bind (wpAny_setState_of ho hd hf (wpAny_bind (wpAny_bind (wpAny_askSetting (wpAny_pure (wpAny_pure ?_))))));dsimp only
 cases hb:(!w.params.followText "set-order" && dr es t) with
 | true =>
  rw [if_pos (show (!(model prog w).w.params.followText "set-order" && (type_of% drawn) es t) = true from hb)];refine wpAny_bind (oT _ _ _ (by rw [List.length_range]) fun ys d pm=>?_)
  refine wpAny_bind (wpAny_newTuple ?_ (by rw [List.length_map,pm.length_eq,List.length_range];exact hs));refine wpAny_bind (wpAny_setEpoch_of (o:=o) (es:=es) (t:=t) (Heap.get?_push_of_some _ ho) hd hf ?_);refine wpAny_bind (wpAny_newObj_type ?_ ?_)
  ·refine wpAny_pure ⟨_,rfl,"set_iterator",_,⟨_,Heap.get?_push_size _ rfl,rfl⟩,cu.lookup,q _ d _ _ (fun b u e=>Heap.get?_push_of_some _ (Heap.get?_push_of_some _ e)) ?_ ⟨_,Heap.get?_push_size _ rfl,rfl,rfl⟩ (.inr ⟨s.heap.objs.size,ys,rfl,Nat.le_refl _,?_,Heap.get?_push_of_some _ (Heap.get?_push_size _ rfl),pm⟩)⟩
   ·show _ <= (s.heap.push _).objs.size;rw [Heap.size_push];exact Nat.le_succ _
   ·show _ ≠ (s.heap.push _).objs.size;rw [Heap.size_push];exact Nat.ne_of_lt (Nat.lt_succ_self _)
  ·show sizeOk _
   first | trivial | exact Nat.le_refl _ | (unfold sizeOk;simp [sizeLine_eq]) | (simp [sizeOk,sizeLine_eq])
 | false =>
  rw [if_neg (show ¬ (!(model prog w).w.params.followText "set-order" && (type_of% drawn) es t) = true from fun z=>by rw [show (!(model prog w).w.params.followText "set-order" && (type_of% drawn) es t) = false from hb] at z;cases z)]
  refine wpAny_bind (wpAny_pure ?_);refine wpAny_bind (wpAny_setEpoch_of ho hd hf ?_);refine wpAny_bind (wpAny_newObj_type ?_ ?_)
  ·refine wpAny_pure ⟨_,rfl,"set_iterator",_,⟨_,Heap.get?_push_size _ rfl,rfl⟩,cu.lookup,q _ s.drawn _ _ (fun b u e=>Heap.get?_push_of_some _ e) (Nat.le_refl _) ⟨_,Heap.get?_push_size _ rfl,rfl,rfl⟩ (.inl ⟨rfl,?_⟩)⟩
   cases ht:w.params.followText "set-order" with
   | true=>exact .inl rfl
   | false=>rw [ht] at hb;exact .inr hb
  ·show sizeOk _
   first | trivial | exact Nat.le_refl _ | (unfold sizeOk;simp [sizeLine_eq]) | (simp [sizeOk,sizeLine_eq])
end
end SW
namespace SW
open PySem PySem.Spec PySem.SetTable
local macro_rules | `(term| type_of% $n:ident) => return Lean.mkIdent (Lean.mkPrivateNameCore `PySem.SetOps (`PySem ++ n.getId))
local macro_rules | `(tactic| delta $n:ident) => if Lean.isPrivateName n.getId then Lean.Macro.throwUnsupported else `(tactic| delta $(Lean.mkIdent (Lean.mkPrivateNameCore `PySem.SetOps (`PySem ++ n.getId))):ident)
def SAt (w:World) (a:Addr) (es:SE) (ep:Nat) (t:SetTable) (ord:List Value) (first:Value) (i:Nat) (h:Heap):Prop :=
 (w.params.followText "set-order" = true/\(∃ j:Nat,first = .int j 0)/\ord = (pickOrder (w.params.setOrder a ep) es).toList.map (·.2)) \/
 (w.params.followText "set-order" = false/\dr es t = false/\t.led = true/\pK t.place/\(∃ j:Nat,first = .int j 0/\below t.place j = i)/\ord = es.toList.map (·.2)) \/
 (∃ (tp:Addr) (ps:List Nat),first = .ref tp/\h.get? tp = some { cls:=.type "tuple",data:=.seq (ps.map fun (i:Nat)=>Value.int i 0).toArray }/\ord.map some = ps.map fun p=>es[p]?.map (·.2))
section
variable {prog:Program} {w:World} {A:Around} {E:Value->Shared->Prop} {s:Shared} {a it:Addr} {o:Obj} {es:SE} {ep:Nat} {t:SetTable} {ord:List Value} {first:Value} {i:Nat}
theorem jA {oi : Obj} {k : Nat} {x : Value} {vs : Array Value} {Q : Unit -> Shared -> Prop} (e1 : s.heap.get? it = some oi) (e2 : oi.cls = .type "set_iterator") (e3 : oi.data = .fields vs) (hk : k < vs.size)
    (q:∀ h' o',Heap.SameBut it s.heap h'->h'.get? it = some o'->o'.cls = .type "set_iterator"->o'.data = .fields (vs.set! k x)->Q () { s with heap:=h' }):wpAny (model prog w) A (setField (.ref it) k x) Q E s:=by
 refine wpAny_setField e1 e3 (by simpa using hk) ?_;refine q _ _ (Heap.SameBut.update _ _ _) (Heap.get?_update_self _ e1 (Obj.isFreed_of_fields (Obj.data_mapFields e3 _))) ((Obj.cls_mapFields _ _).trans e2) ((Obj.data_mapFields e3 _).trans ?_);simp
theorem Aw {oi : Obj} {j i n ep j' : Nat} {x : Value} {Q : Fin -> Shared -> Prop} (e1 : s.heap.get? it = some oi) (e2 : oi.cls = .type "set_iterator") (e3 : oi.data = .fields #[.int j 0, .int i 0, .ref a, .int n 0, .int ep 0])
    (q:∀ h',Heap.SameBut it s.heap h'->IsSI h' it (.int j' 0) (i + 1) a n ep->Q (.done (.ret x)) { s with heap:=h' }):wpAny (model prog w) A (do setField (.ref it) 0 (rawInt j');setField (.ref it) 1 (rawInt (i + 1));ret x) Q E s:=by
 refine wpAny_bind (jA e1 e2 e3 (by simp) fun h1 o1 b1 a1 a2 a3=>?_)
 refine wpAny_bind (jA (s:={ s with heap:=h1 }) a1 a2 a3 (by simp) fun h2 o2 b2 c1 c2 c3=>?_)
 exact wpAny_pure (q h2 (b1.trans b2) ⟨o2,c1,c2,c3.trans rfl⟩)
theorem AA {Q : Option Value -> Shared -> Prop} {v : Value} (ho : s.heap.get? a = some o) (hd : o.data = .set es ep t) (hf : t.fits es.size = true) (st : IsSI s.heap it first i a es.size ep) (at_ : SAt w a es ep t ord first i s.heap) (hv : ord[i]? = some v) (hn : ∀ tp, first = .ref tp -> tp ≠ it) (Tv : a ≠ it)
    (q:∀ h' oM,Heap.SameBut it s.heap h'->IsSI h' it oM (i + 1) a es.size ep->SAt w a es ep t ord oM (i + 1) h'->(∀ tp,oM = .ref tp->first = .ref tp)->Q (some v) { s with heap:=h' }):wpAny (model prog w) A (pyNext (.ref it)) Q E s:=by
 obtain ⟨oi,e1,e2,e3⟩:=id st;have ty:s.TypeIs (.ref it) "set_iterator":=⟨oi,e1,e2⟩;unfold pyNext;refine wpAny_bind (wpAny_attempt (wpAny_callSpecial?_slot ty cu (wpAny_call_entry cu ty jr ?_ (kH _))));unfold Builtin.«set_iterator.__next__»;refine wpAny_bind (wpAny_of_eq (show slotArgs "__next__" 0 { pos:=[.ref it] } = pure (.ref it,[]) from rfl) ?_);dsimp only;refine wpAny_bind (wpAny_fieldsOf e1 e3 ?_);rw [show (#[first,Value.int (i:Int) 0,.ref a,.int (es.size:Int) 0,.int (ep:Int) 0]:Array Value).toList = [first,Value.int (i:Int) 0,.ref a,.int (es.size:Int) 0,.int (ep:Int) 0] from rfl];dsimp only;refine wpAny_bind (wpAny_setEntries_of ho hd hf ?_);rw [if_neg (by simp)]
 rcases at_ with ⟨ft,⟨j,rfl⟩,eo⟩ | ⟨ft,fd,fl,fr,⟨j,rfl,ej⟩,eo⟩ | ⟨tp,ps,rfl,et,eo⟩
 ·dsimp only;refine wpAny_bind ?_;unfold setNext;refine wpAny_bind (wpAny_setState_of ho hd hf ?_);dsimp only;unfold setsByText;refine wpAny_bind (wpAny_bind (wpAny_askSetting (wpAny_pure ?_)));rw [if_pos (show (model prog w).w.params.followText "set-order" = true from ft),if_neg (by simp)];refine wpAny_bind ?_;unfold setWalk setsByText;refine wpAny_bind (wpAny_setState_of ho hd hf ?_);dsimp only;refine wpAny_bind (wpAny_bind (wpAny_askSetting (wpAny_pure ?_)));rw [if_pos (show (model prog w).w.params.followText "set-order" = true from ft)];refine wpAny_bind (wpAny_askSetting (wpAny_pure ?_));rw [eo,List.getElem?_map] at hv;obtain ⟨e,he,rfl⟩:=Option.map_eq_some_iff.mp hv;rw [Array.getElem?_toList] at he;simp only [Int.toNat_natCast];rw [show (pickOrder ((⟨(model prog w).prog,(model prog w).w.params⟩:Setting).params.setOrder a ep) es)[i]? = some e from he];refine wpAny_pure ?_;exact Aw e1 e2 e3 fun h' sb bj=>⟨_,rfl,wpAny_pure (q h' _ sb bj (.inl ⟨ft,⟨_,rfl⟩,eo⟩) fun tp z=>by cases z)⟩
 ·dsimp only;refine wpAny_bind ?_;unfold setNext;refine wpAny_bind (wpAny_setState_of ho hd hf ?_);dsimp only;unfold setsByText;refine wpAny_bind (wpAny_bind (wpAny_askSetting (wpAny_pure ?_)));rw [if_neg (show ¬ (model prog w).w.params.followText "set-order" = true from fun z=>by rw [show (model prog w).w.params.followText "set-order" = false from ft] at z;cases z),if_neg (show ¬ (type_of% drawn) es t = true from fun z=>by rw [show (type_of% drawn) es t = false from fd] at z;cases z)]
  delta mustBeLedForItsPlaces
  rw [if_neg (by rw [fl];simp)];refine wpAny_bind (wpAny_pure ?_);rw [Int.toNat_natCast,ej];rw [eo,List.getElem?_map] at hv;obtain ⟨e,he,rfl⟩:=Option.map_eq_some_iff.mp hv;rw [Array.getElem?_toList] at he;obtain ⟨hi,he'⟩:=Array.getElem?_eq_some_iff.mp he;have hp:i < t.place.size:=by
   simp only [SetTable.fits,Bool.and_eq_true,beq_iff_eq] at hf;rw [hf.1];exact hi
  rw [he,Array.getElem?_eq_getElem hp];refine wpAny_pure ?_;exact Aw e1 e2 e3 fun h' sb bj=>⟨_,rfl,wpAny_pure (q h' _ sb bj (.inr (.inl ⟨ft,fd,fl,fr,⟨_,rfl,xa fr hp⟩,eo⟩)) fun tp z=>by cases z)⟩
 ·dsimp only;refine wpAny_bind (wpAny_seqItems et rfl ?_);dsimp only;have h1:(ord.map some)[i]? = some (some v):=by rw [List.getElem?_map,hv];rfl
  rw [eo,List.getElem?_map] at h1;obtain ⟨p,hp,h2⟩:=Option.map_eq_some_iff.mp h1;obtain ⟨e,he,rfl⟩:=Option.map_eq_some_iff.mp h2;have h3:(ps.map fun (i:Nat)=>Value.int i 0).toArray[i]? = some (.int p 0):=by
   rw [List.getElem?_toArray,List.getElem?_map,hp]
   rfl
  rw [Int.toNat_natCast,h3];dsimp only;refine wpAny_bind ?_;unfold setNextDrawn;refine wpAny_bind (wpAny_setState_of ho hd hf ?_);dsimp only;rw [if_neg (by simp),Int.toNat_natCast,he];refine wpAny_pure ?_;refine wpAny_bind (jA e1 e2 e3 (by simp) fun h1 o1 b1 a1 a2 a3=>?_)
  refine wpAny_pure ⟨_,rfl,wpAny_pure (q h1 (.ref tp) b1 ⟨o1,a1,a2,a3.trans rfl⟩ (.inr (.inr ⟨tp,ps,rfl,(b1.2 tp (hn tp rfl)).trans et,eo⟩)) fun tp z=>z)⟩
end
end SW
namespace SW
open PySem PySem.Spec PySem.SetTable
local macro_rules | `(term| type_of% $n:ident) => return Lean.mkIdent (Lean.mkPrivateNameCore `PySem.SetOps (`PySem ++ n.getId))
local macro_rules | `(tactic| delta $n:ident) => if Lean.isPrivateName n.getId then Lean.Macro.throwUnsupported else `(tactic| delta $(Lean.mkIdent (Lean.mkPrivateNameCore `PySem.SetOps (`PySem ++ n.getId))):ident)
section
variable {prog:Program} {w:World} {A:Around} {E:Value->Shared->Prop} {s:Shared} {a it:Addr} {o:Obj} {es:SE} {ep:Nat} {t:SetTable} {ord:List Value} {first:Value} {i:Nat}
theorem rC {Q : Option Value -> Shared -> Prop} {F : Fin -> Shared -> Prop} (hh : A.handled = none) (q : ∀ h', (∀ b u, s.heap.get? b = some u -> h'.get? b = some u) -> Q none { s with heap := h' }) :
    wpAny (model prog w) A.in1 (do let e <- newExc (.type "StopIteration") [];raiseNew e) F (fun e s'=>wpAny (model prog w) A (do let b <- isInstance e (.type "StopIteration");if b = true then pure none else throw e) Q E s') s:=by
 refine wpAny_bind (wpAny_bind (wpAny_newTuple ?_ (Nat.zero_le _)));refine wpAny_bind (wpAny_pure (wpAny_newObj_type ?_ (sizeOk_excFields _ _ _ _ _ _ _ _)));unfold raiseNew;refine wpAny_bind (wpAny_handled ?_);rw [show A.in1.handled = none from hh];refine wpAny_throw (wpAny_bind (wpAny_isInstance (T:="StopIteration") ⟨_,Heap.get?_push_size _ rfl,rfl⟩ isSubtype_stop ?_));rw [if_pos rfl];exact wpAny_pure (q _ fun b u e=>Heap.get?_push_of_some _ (Heap.get?_push_of_some _ e))
theorem Di {Q : Option Value -> Shared -> Prop} (hh : A.handled = none) (ho : s.heap.get? a = some o) (hd : o.data = .set es ep t) (hf : t.fits es.size = true) (st : IsSI s.heap it first i a es.size ep) (at_ : SAt w a es ep t ord first i s.heap) (hv : ord[i]? = none)
    (q:∀ h',Heap.ExtBut it s.heap h'->Q none { s with heap:=h' }):wpAny (model prog w) A (pyNext (.ref it)) Q E s:=by
 obtain ⟨oi,e1,e2,e3⟩:=id st;have ty:s.TypeIs (.ref it) "set_iterator":=⟨oi,e1,e2⟩;unfold pyNext;refine wpAny_bind (wpAny_attempt (wpAny_callSpecial?_slot ty cu (wpAny_call_entry cu ty jr ?_ (kH _))));unfold Builtin.«set_iterator.__next__»;refine wpAny_bind (wpAny_of_eq (show slotArgs "__next__" 0 { pos:=[.ref it] } = pure (.ref it,[]) from rfl) ?_);dsimp only;refine wpAny_bind (wpAny_fieldsOf e1 e3 ?_);rw [show (#[first,Value.int (i:Int) 0,.ref a,.int (es.size:Int) 0,.int (ep:Int) 0]:Array Value).toList = [first,Value.int (i:Int) 0,.ref a,.int (es.size:Int) 0,.int (ep:Int) 0] from rfl];dsimp only;refine wpAny_bind (wpAny_setEntries_of ho hd hf ?_);rw [if_neg (by simp)]
 rcases at_ with ⟨ft,⟨j,rfl⟩,eo⟩ | ⟨ft,fd,fl,fr,⟨j,rfl,ej⟩,eo⟩ | ⟨tp,ps,rfl,et,eo⟩
 ·dsimp only;refine wpAny_bind ?_;unfold setNext;refine wpAny_bind (wpAny_setState_of ho hd hf ?_);dsimp only;unfold setsByText;refine wpAny_bind (wpAny_bind (wpAny_askSetting (wpAny_pure ?_)));rw [if_pos (show (model prog w).w.params.followText "set-order" = true from ft),if_neg (by simp)];refine wpAny_bind ?_;unfold setWalk setsByText;refine wpAny_bind (wpAny_setState_of ho hd hf ?_);dsimp only;refine wpAny_bind (wpAny_bind (wpAny_askSetting (wpAny_pure ?_)));rw [if_pos (show (model prog w).w.params.followText "set-order" = true from ft)];refine wpAny_bind (wpAny_askSetting (wpAny_pure ?_));rw [eo,List.getElem?_map,Option.map_eq_none_iff,Array.getElem?_toList] at hv;simp only [Int.toNat_natCast];rw [show (pickOrder ((⟨(model prog w).prog,(model prog w).w.params⟩:Setting).params.setOrder a ep) es)[i]? = none from hv];refine wpAny_pure ?_;refine wpAny_bind (jA e1 e2 e3 (by simp) fun h1 o1 b1 a1 a2 a3=>?_)
  exact rC (s:={ s with heap:=h1 }) hh fun h' k=>q h' fun b u n e=>k b u ((b1.2 b n).trans e)
 ·dsimp only;refine wpAny_bind ?_;unfold setNext;refine wpAny_bind (wpAny_setState_of ho hd hf ?_);dsimp only;unfold setsByText;refine wpAny_bind (wpAny_bind (wpAny_askSetting (wpAny_pure ?_)));rw [if_neg (show ¬ (model prog w).w.params.followText "set-order" = true from fun z=>by rw [show (model prog w).w.params.followText "set-order" = false from ft] at z;cases z),if_neg (show ¬ (type_of% drawn) es t = true from fun z=>by rw [show (type_of% drawn) es t = false from fd] at z;cases z)]
  delta mustBeLedForItsPlaces
  rw [if_neg (by rw [fl];simp)];refine wpAny_bind (wpAny_pure ?_);rw [Int.toNat_natCast,ej];rw [eo,List.getElem?_map,Option.map_eq_none_iff,Array.getElem?_toList] at hv;rw [hv];refine wpAny_pure ?_;refine wpAny_bind (jA e1 e2 e3 (by simp) fun h1 o1 b1 a1 a2 a3=>?_)
  exact rC (s:={ s with heap:=h1 }) hh fun h' k=>q h' fun b u n e=>k b u ((b1.2 b n).trans e)
 ·dsimp only;refine wpAny_bind (wpAny_seqItems et rfl ?_);dsimp only;have h1:(ord.map some)[i]? = none:=by rw [List.getElem?_map,hv];rfl
  rw [eo,List.getElem?_map,Option.map_eq_none_iff] at h1;have h3:(ps.map fun (i:Nat)=>Value.int i 0).toArray[i]? = none:=by
   rw [List.getElem?_toArray,List.getElem?_map,h1]
   rfl
  rw [Int.toNat_natCast,h3];dsimp only;refine wpAny_bind (jA e1 e2 e3 (by simp) fun h1 o1 b1 a1 a2 a3=>?_)
  refine wpAny_bind (jA (s:={ s with heap:=h1 }) a1 a2 a3 (by simp) fun h2 o2 b2 c1 c2 c3=>?_)
  exact rC (s:={ s with heap:=h2 }) hh fun h' k=>q h' fun b u n e=>k b u ((b2.2 b n).trans ((b1.2 b n).trans e))
end
end SW
namespace SW
open PySem PySem.Spec PySem.SetTable
local macro_rules | `(term| type_of% $n:ident) => return Lean.mkIdent (Lean.mkPrivateNameCore `PySem.Builtin.List.Common (`PySem.Builtin.List ++ n.getId))
theorem j4:Slot "set_iterator" "__iter__" "set_iterator.__iter__":=.of (owner:="set_iterator") (n:="__iter__") (by rw [typeLookup_type,builtinLookup_eq_fast];kernel_rfl) (by decide +kernel) (by decide +kernel) (by decide +kernel) (by first | exact .inl (by decide +kernel) | exact .inr (by decide +kernel)) (by rw [isSubtype_type];kernel_rfl)
theorem qa:entryFor table "set_iterator.__iter__" = some Builtin.«dict_keyiterator.__iter__»:=entryFor_alias (id':="dict_keyiterator.__iter__") (by kernel_rfl) rfl (by decide +kernel) (by kernel_rfl)
theorem sT (a:Value):argsOk "set_iterator.__iter__" ⟨[a],[]⟩:=by unfold argsOk;kernel_rfl
section
variable {prog:Program} {w:World} {A:Around} {E:Value->Shared->Prop} {s:Shared} {a it:Addr} {o:Obj} {es:SE} {ep:Nat} {t:SetTable} {ord:List Value}
def YM (w:World) (a it:Addr) (o:Obj) (es:SE) (ep:Nat) (t:SetTable) (ord:List Value) (fp:List Addr) (i:Nat) (s:Shared):Prop :=
 ∃ first,s.heap.get? a = some o/\IsSI s.heap it first i a es.size ep/\SAt w a es ep t ord first i s.heap/\∀ tp,first = .ref tp->tp ≠ it/\tp ∈ fp
theorem IsSI.at {h h':Heap} {first:Value} {i n:Nat} (x:IsSI h it first i a n ep) (e:∀ u,h.get? it = some u->h'.get? it = some u):IsSI h' it first i a n ep:=by
 obtain ⟨u,h1,r⟩:=x;exact ⟨u,e u h1,r⟩
theorem SAt.at {h h':Heap} {first:Value} {i:Nat} (x:SAt w a es ep t ord first i h) (e:∀ tp u,first = .ref tp->h.get? tp = some u->h'.get? tp = some u):SAt w a es ep t ord first i h':=by
 rcases x with x | x | ⟨tp,ps,e1,e2,e3⟩
 ·exact .inl x
 ·exact .inr (.inl x)
 ·exact .inr (.inr ⟨tp,ps,e1,e tp _ e1 e2,e3⟩)
theorem yz {fp:List Addr} (hh:A.handled = none) (hd:o.data = .set es ep t) (hf:t.fits es.size = true) (Tv:a ≠ it) (h1:it ∈ fp) (h2:a ∈ fp):WalksS prog w A it fp [it] Eq ord.length (fun i v=>ord[i]? = some v) (YM w a it o es ep t ord fp) where
 sub:=fun b hb=>by rw [List.mem_singleton.mp hb];exact h1
 grefl:=fun _=>rfl
 gtrans:=fun _ _ _ x y=>x.trans y
 frame:=fun i s h' tk st _ k=>by
  obtain ⟨first,g1,g2,g3,g4⟩:=st;exact ⟨first,k a h2 o g1,g2.at (k it h1),g3.at (fun tp u e z=>k tp (g4 tp e).2 u z),g4⟩
 item:=fun i s Q E hi st q=>by
  obtain ⟨first,g1,g2,g3,g4⟩:=st;refine AA (v:=ord[i]) g1 hd hf g2 g3 (List.getElem?_eq_getElem hi) (fun tp e=>(g4 tp e).1) Tv fun h' oM sb bj at' n'=>?_
  refine q _ _ (List.getElem?_eq_getElem hi) ⟨oM,(sb.2 a Tv).trans g1,bj,at',fun tp e=>g4 tp (n' tp e)⟩ ⟨fun b u hb e=>(sb.2 b (fun z=>hb (by rw [z];exact List.mem_singleton.mpr rfl))).trans e,rfl,rfl,rfl,Nat.le_refl _⟩
 done:=fun s Q E st q=>by
  obtain ⟨first,g1,g2,g3,g4⟩:=st;exact Di hh g1 hd hf g2 g3 (by simp) fun h' eb=>q _ ⟨fun b u hb e=>eb b u (fun z=>hb (by rw [z];exact List.mem_singleton.mpr rfl)) e,rfl,rfl,rfl,Nat.le_refl _⟩
 self:=fun i s Q E st q=>by
  obtain ⟨first,g1,⟨u,e1,e2,e3⟩,g3,g4⟩:=st;have ty:s.TypeIs (.ref it) "set_iterator":=⟨u,e1,e2⟩;refine wpAny_pyIter_slot ty j4 (wpAny_call_entry j4 ty qa ?_ (sT _));exact wpAny_pure ⟨_,rfl,"set_iterator",_,ty,cu.lookup,q⟩
end
end SW
namespace SW
open PySem PySem.Spec PySem.SetTable
local macro_rules | `(tactic| delta $n:ident) => if Lean.isPrivateName n.getId then Lean.Macro.throwUnsupported else `(tactic| delta $(Lean.mkIdent (Lean.mkPrivateNameCore `PySem.Builtin.List.Common (`PySem.Builtin.List ++ n.getId))):ident)
section
variable {prog:Program} {w:World} {κ:Type} [DecidableEq κ] {kd:KeyKind prog w κ} {A:Around} {E:Value->Shared->Prop} {s:Shared} {a:Addr} {ks:List κ}
theorem tV {es:SE}:∀ (ps:List Nat),(∀ p ∈ ps,p < es.size)->∃ L:List (Int × Value),ps.map (fun p=>es[p]?) = L.map some
 | [],_=>⟨[],rfl⟩
 | p :: ps,h=>by
  obtain ⟨L,e⟩:=tV ps fun x hx=>h x (List.mem_cons_of_mem _ hx)
  exact ⟨es[p]'(h p List.mem_cons_self) :: L,by rw [List.map_cons,List.map_cons,e,Array.getElem?_eq_getElem (h p List.mem_cons_self)]⟩
theorem C1 {Q : Value -> Shared -> Prop} (S : SetW kd s.heap a ks)
    (q:∀ o es ep t ord tp it d h' (M:List (κ × Value)),h'.get? a = some o->o.data = .set es ep t->t.fits es.size = true->es.size < scanBound->M.map (·.2) = ord->(M.map (·.1)).Perm ks->(∀ p ∈ M,kd.is p.1 p.2 = true)->ord.length < scanBound ->
     (∀ b u,s.heap.get? b = some u->h'.get? b = some u)->s.heap.objs.size <= it->s.heap.objs.size <= tp->tp < h'.objs.size->it < h'.objs.size->a ≠ it->YM w a it o es ep t ord [it,a,tp] 0 { s with heap:=h',drawn:=d }->Q (.ref it) { s with heap:=h',drawn:=d }):wpAny (model prog w) A (pyIter (.ref a)) Q E s:=by
 obtain ⟨o,es,ep,t,L,ho,hx,hd,l1,l2,l3,hb,hf,hr,hl⟩:=S;have fin:∀ L0:List (Int × Value),L0.Perm es.toList->∃ M:List (κ × Value),M.map (·.2) = L0.map (·.2)/\(M.map (·.1)).Perm ks/\∀ p ∈ M,kd.is p.1 p.2 = true:=fun L0 pm=>by
  obtain ⟨L',p1,p2⟩:=L2.perm_lift (pm.trans (.of_eq l1.symm)) L rfl;refine ⟨L'.map fun p=>(p.1,p.2.2),?_,?_,fun p hp=>?_⟩
  ·rw [p2,List.map_map,List.map_map]
   rfl
  ·rw [List.map_map];exact (p1.map _).trans l2
  ·obtain ⟨p0,h0,rfl⟩:=List.mem_map.mp hp;exact (l3 p0 (p1.mem_iff.mp h0)).1
 refine Az ho hx hd hf hb fun first d h' it kp hit st md=>?_
 have lt:it < h'.objs.size:=by obtain ⟨_,e,_⟩:=st;exact Heap.lt_size e
 have ne:a ≠ it:=Nat.ne_of_lt (Nat.lt_of_lt_of_le (Heap.lt_size ho) hit);have go:∀ (L0:List (Int × Value)) (tp:Addr),L0.Perm es.toList->s.heap.objs.size <= tp->tp < h'.objs.size->SAt w a es ep t (L0.map (·.2)) first 0 h'->(∀ z,first = .ref z->z ≠ it/\z = tp)->Q (.ref it) { s with heap:=h',drawn:=d }:=fun L0 tp pm t1 t2 sa nt=>by
  obtain ⟨M,m1,m2,m3⟩:=fin L0 pm;refine q o es ep t _ tp it d h' M (kp a o ho) hd hf hb m1 m2 m3 ?_ kp hit t1 t2 lt ne ⟨first,kp a o ho,st,sa,fun z e=>⟨(nt z e).1,by rw [(nt z e).2];simp⟩⟩
  rw [List.length_map,pm.length_eq,Array.length_toList];exact hb
 rcases md with ⟨rfl,m⟩ | ⟨tp,ps,rfl,t1,t2,t3,pm⟩
 ·cases ft:w.params.followText "set-order" with
  | true=>exact go _ it (yL (w.params.setOrder a ep) es) hit lt (.inl ⟨ft,⟨0,rfl⟩,rfl⟩) fun z e=>by cases e
  | false =>
   have m':dr es t = false:=m.elim (fun z=>by rw [ft] at z;cases z) id
   exact go _ it (.refl _) hit lt (.inr (.inl ⟨ft,m',by rw [hl];unfold qI;rw [ft];rfl,hr,⟨0,rfl,w6 hr⟩,rfl⟩)) fun z e=>by cases e
 ·obtain ⟨L0,e0⟩:=tV (es:=es) ps fun p hp=>List.mem_range.mp (pm.mem_iff.mp hp)
  have pL:L0.Perm es.toList:=by
   rw [<- B5 e0,<- range_items es];exact pm.filterMap _
  refine go L0 tp pL t1 (Heap.lt_size t3) (.inr (.inr ⟨tp,ps,rfl,t3,?_⟩)) fun z e=>by cases e;exact ⟨t2,rfl⟩
  have:=congrArg (List.map (Option.map fun x:Int × Value=>x.2)) e0
  rw [List.map_map,List.map_map] at this;rw [List.map_map];exact this.symm
end
end SW
namespace SW
open PySem PySem.Spec PySem.SetTable
local macro_rules | `(tactic| delta $n:ident) => if Lean.isPrivateName n.getId then Lean.Macro.throwUnsupported else `(tactic| delta $(Lean.mkIdent (Lean.mkPrivateNameCore `PySem.Builtin.List.Common (`PySem.Builtin.List ++ n.getId))):ident)
local macro_rules | `(term| type_of% $n:ident) => return Lean.mkIdent (Lean.mkPrivateNameCore `PySem.Builtin.List.Common (`PySem.Builtin.List ++ n.getId))
section
variable {prog:Program} {w:World} {κ:Type} [DecidableEq κ] {kd:KeyKind prog w κ} {A:Around} {E:Value->Shared->Prop} {s:Shared} {a:Addr} {ks:List κ}
theorem collect_set {Q : List Value -> Shared -> Prop} (hh : A.handled = none) (S : SetW kd s.heap a ks) (q : ∀ h' d tk (M : List (κ × Value)), (M.map (·.1)).Perm ks -> (∀ p ∈ M, kd.is p.1 p.2 = true) -> (∀ b u, s.heap.get? b = some u -> h'.get? b = some u) -> Q (M.map (·.2)) { s with heap := h', drawn := d, toks := tk }) :
    wpAny (model prog w) A (collect (.ref a)) Q E s:=by
 have la:a < s.heap.objs.size:=by obtain ⟨_,_,_,_,_,e,_⟩:=S;exact Heap.lt_size e
 have ty:∀ s1:Shared,SetW kd s1.heap a ks->s1.TypeIs (.ref a) "set":=fun s1 z=>by obtain ⟨o,_,_,_,_,e,hx,_⟩:=z;exact ⟨o,e,hx.1⟩
 unfold collect;refine wpAny_bind (wpAny_runValue (codeAny_builtin F.entry_proto_collect (?_:_)));rw [(Around.under_plainId F.plain_proto_collect _ :)];show wpAny (model prog w) A.in1 (newList [] >>= fun (x:Value)=>again (.builtin "list.__iadd__" ⟨[x,.ref a],[]⟩)) _ _ s
 refine wpAny_bind (wpAny_newObj_type (?_:_));refine wpAny_pure (⟨plainId_quiet F.plain_list_iadd _,codeAny_builtin F.entry_list_iadd (?_:_)⟩:_/\_);rw [(Around.under_plainId F.plain_list_iadd _ :)];generalize TK:s.heap.push { cls:=.type "list",data:=.seq ([]:List Value).toArray } = h0;have g0:h0.get? s.heap.objs.size = some { cls:=.type "list",data:=.seq #[] }:=by rw [<- TK];exact Heap.get?_push_size _ rfl
 have k0:∀ b u,s.heap.get? b = some u->h0.get? b = some u:=fun b u e=>by rw [<- TK];exact Heap.get?_push_of_some _ e
 have S0:SetW kd h0 a ks:=S.kept fun o e=>k0 a o e
 show wpAny (model prog w) A.in1 (Builtin.List.listExtendWith (.ref s.heap.objs.size) (.ref a) (.ref s.heap.objs.size)) _ _ _;unfold Builtin.List.listExtendWith;refine wpAny_bind (wpAny_typeOf (ty { s with heap:=h0 } S0) ?_);have nl:Builtin.List.listSameRef (.ref s.heap.objs.size) (.ref a) = false:=by simp [Builtin.List.listSameRef,Nat.ne_of_gt la]
 rw [if_neg (by rw [nl];decide)];refine wpAny_bind (C1 (s:={ s with heap:=h0 }) S0 fun o es ep t ord tp it d h1 M b1 b2 b3 b4 m1 m2 m3 m4 k1 i1 t1 t2 i2 ne st=>?_)
 refine wpAny_bind (wpAny_holding ?_);have S1:SetW kd h1 a ks:=S0.kept fun o e=>k1 a o e
 have JC:=ty { s with heap:=h1,drawn:=d } S1;unfold Builtin.List.listLengthHint;refine wpAny_bind (wpAny_specialOf JC F.slot_set_len.lookup ?_)
 extract_lets +onlyGivenNames -underBinder -merge -useContext J
 clear_value (hJ:J = _)
 dsimp (zeta:=false) only;rw [show splitId "set.__len__" = some ("set","__len__") from by decide +kernel];dsimp (zeta:=false) only;refine wpAny_bind (wpAny_isInstance (b:=true) JC sub_set_self ?_);rw [if_neg (by decide)];rw [hJ];dsimp (zeta:=false) (zetaUnused:=false) only
 extract_lets +onlyGivenNames -underBinder -merge -useContext J2
 clear_value J2
 rw [if_pos (show (type_of% silentSize) (some (.builtin "set.__len__")) = true from by decide +kernel)];refine wpAny_bind (wpAny_typeOf JC ?_);dsimp only;refine wpAny_pure ?_;rw [if_pos (show (false || (type_of% listResizesAlways).any fun x=>Value.type "set" == Value.type x) = true from by decide +kernel)];refine wpAny_bind (wpAny_rule ?_);refine wpAny_bind ?_;unfold Builtin.List.listTouch;have u1:IsL h1 s.heap.objs.size #[] 0:=k1 _ _ g0;have u2:=PySem.IsL.update u1 (fun x=>x.push .none);have u3:=PySem.IsL.update u2 (fun x=>x.pop);rw [show ((#[]:Array Value).push .none).pop = #[] from rfl] at u3;refine wpAny_bind (PyProof.Rows.listUpdate_at u1 rfl ?_ (by simp) (by simp [sizeLine_eq]));refine PyProof.Rows.listUpdate_at u2 rfl ?_ (by simp [sizeLine_eq]) (by simp [sizeLine_eq]);generalize Ye:(h1.update s.heap.objs.size (Obj.mapSeq fun x=>x.push .none)).update s.heap.objs.size (Obj.mapSeq fun x=>x.pop) = h3;rw [Ye] at u3;have k3:∀ b u,b ≠ s.heap.objs.size->h1.get? b = some u->h3.get? b = some u:=fun b u n e=>by
  rw [<- Ye];exact (Heap.get?_update_other _ _ (Ne.symm n)).trans ((Heap.get?_update_other _ _ (Ne.symm n)).trans e)
 have z0:h0.objs.size = s.heap.objs.size + 1:=by rw [<- TK];exact Heap.size_push _ _
 have XM:s.heap.objs.size + 1 <= it:=by rw [<- z0];exact i1
 have ZV:s.heap.objs.size + 1 <= tp:=by rw [<- z0];exact t1
 have nf:s.heap.objs.size ∉ [it,a,tp]:=by
  simp only [List.mem_cons,List.not_mem_nil,or_false,not_or];exact ⟨Nat.ne_of_lt XM,Nat.ne_of_gt la,Nat.ne_of_lt ZV⟩
 have W:=yz (prog:=prog) (w:=w) (A:=A.in1) (o:=o) (es:=es) (ep:=ep) (t:=t) (ord:=ord) (fp:=[it,a,tp]) hh b2 b3 ne (by simp) (by simp);have Gf:=W.frame 0 _ h3 s.toks st (Nat.le_refl _) fun b hb u e=>k3 b u (fun z=>nf (by rw [<- z];exact hb)) e
 refine wpAny_pure ⟨plainId_quiet F.plain_extend_loop _,codeAny_extend_loopS W (fits_of_scanBound m4) _ nf _ ord.length 0 _ #[] _ rfl (Nat.zero_le _) Gf u3 (ItemsOf.nil _) fun s' acc c' hm hS' zj=>?_⟩;show wpAny _ A (load s.heap.objs.size >>= _) _ _ s';refine wpAny_bind (wpAny_load hS' (wpAny_pure ?_));have ea:acc.toList = M.map (·.2):=by
  rw [m1];apply List.ext_getElem
  ·rw [Array.length_toList,zj.1]
  ·intro j x1 x2;rw [Array.length_toList] at x1;have:ord[j]? = some acc[j]:=zj.2 j acc[j] (Array.getElem?_eq_getElem x1);rw [List.getElem?_eq_getElem x2] at this;rw [Array.getElem_toList];exact (Option.some.inj this).symm
 obtain ⟨h',g',d',Xf,PJ⟩:=s';have eg:s.gens = g':=hm.gens;have ed:d' = d:=hm.drawn;have eo:PJ = s.os:=hm.os;subst eg ed eo;rw [ea];refine q h' _ Xf M m2 m3 fun b u e=>?_
 have lb:=Heap.lt_size e;refine hm.heap b u ?_ (k3 b u (Nat.ne_of_lt lb) (k1 b u (k0 b u e)));simp only [List.mem_cons,List.not_mem_nil,or_false,not_or];exact ⟨Nat.ne_of_lt lb,Nat.ne_of_lt (Nat.lt_of_lt_of_le (Nat.lt_succ_of_lt lb) XM)⟩
end
end SW
namespace L2
open PySem PySem.Spec PyProof.Rows
variable {X:Cx} {σ:St} {H:Hp} {Q:VK}
section
variable {K:W.Frag} {pins:List (Addr × Obj)} {s:Shared}
theorem Inv.keptD {h':Heap} {d':Drawn} {t':Nat} (I:Inv X pins σ H s) (k:∀ b u,s.heap.get? b = some u->h'.get? b = some u):Inv X pins σ H { s with heap:=h',drawn:=d',toks:=t' }:=by
 refine I.step (g':=s.gens) (d':=d') (ch:=[]) (fun _ z=>nomatch z) (fun b o _ _ _ e _=>k b o e) (fun b o _ _ _ e _=>⟨o.slots,k b o e⟩) (fun b o _ e q=>q) (fun b o _ e=>⟨o,k b o e⟩) (fun b xs e=>e) (fun b o u e=>e) (fun b ps e=>⟨#[],by rw [e];simp⟩) (fun m hm=>?_) (fun b u e=>(I.hok.kept k) b u e) I.bare
 obtain ⟨o,es,ep,ho,r⟩:=hm;exact ⟨o,es,ep,k _ o ho,r⟩
end
section
variable {K:W.Frag} {pins:List (Addr × Obj)} {s:Shared}
abbrev xh (X:Cx) (a:Addr) (ks:List Str):Heap->Prop:=fun h=>SW.SetW (PySem.strKind X.prog X.w) h a ks
def Fc (X:Cx):List V->Hp->VK->Prop:=fun xs H Q=>∃ (p:Addr) (ns:List Str),xs = [.ref p]/\SqL X.K H p (ns.map V.str)/\ns.length < 4000/\∀ l H1,H l = none->Same H H1->H1 l = some (.ext (xh X l (SW.onces ns)))->Q (.ref l) H1
theorem Co (hc:X.calm = true:=by rfl):cF X (.type "set") (Fc X):=by
 intro pins s σ H xs us Q I r h;obtain ⟨p,ns,rfl,hp,hl,q⟩:=h;obtain ⟨u,rfl,ru⟩:=vals1 r
 cases (show u = Value.ref p from ru)
 obtain ⟨its,r',pl,_⟩:=I.list hp;have oI:its.length = ns.length:=by rw [r'.len,List.length_map]
 refine SW.sw_set (kd:=PySem.strKind X.prog X.w) (its:=its.toArray) (ks:=ns) (I.ok.hd hc) pl.isList (by rw [List.size_toArray,oI]) (fun i v hv=>?_) (by unfold scanBound;omega) fun h' tk S kp=>?_
 ·rw [List.getElem?_toArray] at hv;have hi:i < ns.length:=by rw [<- oI];exact (List.getElem?_eq_some_iff.mp hv).1
  obtain ⟨u,hu,ru⟩:=r'.get (show (ns.map V.str)[i]? = some (V.str ns[i]) by rw [List.getElem?_map,List.getElem?_eq_getElem hi];rfl);rw [hv] at hu
  cases hu
  obtain ⟨t,rfl⟩:=ru;exact ⟨ns[i],List.getElem?_eq_getElem hi,by show Value.isStrOf ns[i] (.str ns[i] t) = true;simp [Value.isStrOf],rfl⟩
 ·have ho:∃ o,h'.get? s.heap.objs.size = some o:=by obtain ⟨o,_,_,_,_,e,_⟩:=S;exact ⟨o,e⟩
  refine ⟨.ref s.heap.objs.size,_,I.laid (o:=.ext (xh X s.heap.objs.size (SW.onces ns))) (t':=tk) kp (Nat.le_refl _) ⟨S,ho,fun h1 h2 z k=>z.kept k⟩,rfl,q _ _ I.fresh (bh I.fresh) aC⟩
theorem rq {prog:Program} {w:World}:∀ (M:List (Str × Value)),(∀ p ∈ M,(PySem.strKind prog w).is p.1 p.2 = true)->StrsAre (M.map (·.2)) (M.map (·.1))
 | [],_=>.nil
 | (n,v) :: M,h=>by
  obtain ⟨t,e⟩:=Value.isStrOf_shape (h (n,v) List.mem_cons_self);rw [List.map_cons,List.map_cons];dsimp only at e ⊢;rw [e];exact .cons n t (rq M fun p hp=>h p (List.mem_cons_of_mem _ hp))
theorem xF {p:Addr} (ns:List Str) (h1:SqL X.K H p (ns.map V.str)) (h2:ns.length < 4000) (q:∀ l H1,H l = none->Same H H1->H1 l = some (.ext (xh X l (SW.onces ns)))->Q (.ref l) H1):Fc X [.ref p] H Q:=⟨p,ns,rfl,h1,h2,q⟩
end
section
def Fg (X:Cx):List V->Hp->VK->Prop:=fun xs H Q=>∃ (p:Addr) (ks:List Str),xs = [.ref p]/\H p = some (.ext (xh X p ks))/\Q (.int (ks.length:Nat)) H
theorem IP:cF X (.builtin "len") (Fg X):=by
 intro pins s σ H xs us Q I r h;obtain ⟨p,ks,rfl,hp,q⟩:=h;obtain ⟨u,rfl,ru⟩:=vals1 r
 cases (show u = Value.ref p from ru)
 obtain ⟨o,es,ep,t,L,ho,hex,hd,l1,l2,l3,hb,hf,_,_⟩:=(show SW.SetW (PySem.strKind X.prog X.w) s.heap p ks from (I.hok p _ hp).1);have e:es.size = ks.length:=by rw [<- Array.length_toList,<- l1,List.length_map,<- l2.length_eq,List.length_map]
 refine call_len_set ho hex hd hf (by unfold scanBound at hb;omega) ⟨.int (es.size:Nat),H,I.tok _,⟨_,rfl⟩,?_⟩;rw [e];exact q
theorem Dm {p:Addr} (ks:List Str) (h1:H p = some (.ext (xh X p ks))) (q:Q (.int (ks.length:Nat)) H):Fg X [.ref p] H Q:=⟨p,ks,rfl,h1,q⟩
end
end L2
namespace L2
open PySem PySem.Spec PySem.W PyProof.Rows TS
section
variable {prog:Program} {w:World} {A:Around} {E:Value->Shared->Prop} {s:Shared}
theorem nE {p:Str × Value} (h:(PySem.strKind prog w).is p.1 p.2 = true):∃ t,p.2 = .str p.1 t:=Value.isStrOf_shape h
def rn (x:Keyed):Str:=match x.1 with
 | .str z _=>z
 | _=>⟨#[]⟩
theorem FQ {M : List (Str × Value)} (hM : ∀ p ∈ M, (PySem.strKind prog w).is p.1 p.2 = true) (nd : (M.map (·.1)).Nodup) :
    sY prog w A s oneType' (fun x=>x ∈ M.map fun p=>(p.2,p.2)) (fun x y=>decide ((rn x).cps.toList < (rn y).cps.toList)) where
 ask:=fun x y hx hy C q=>by
  obtain ⟨p,hp,rfl⟩:=List.mem_map.mp hx;obtain ⟨p',pJ,rfl⟩:=List.mem_map.mp hy;obtain ⟨t,e⟩:=nE (hM p hp);obtain ⟨t',e'⟩:=nE (hM p' pJ);dsimp only at q ⊢;rw [e,e'] at q ⊢;exact kas_lt_str q
 tot:=fun x y hx hy ne e=>by
  obtain ⟨p,hp,rfl⟩:=List.mem_map.mp hx;obtain ⟨p',pJ,rfl⟩:=List.mem_map.mp hy;obtain ⟨t,e1⟩:=nE (hM p hp);obtain ⟨t',e2⟩:=nE (hM p' pJ);have n1:p.1 ≠ p'.1:=fun z=>ne (by rw [iB nd hp pJ z])
  dsimp only [rn] at e ⊢;rw [e1,e2] at e ⊢;have e:=of_decide_eq_false e;refine decide_eq_true ?_
  by_cases z:p'.1.cps.toList < p.1.cps.toList
  ·exact z
  ·exact absurd (aV (List.le_antisymm (List.not_lt.mp z) (List.not_lt.mp e))) n1
 YE:=fun x y _ _ e=>by
  have e:=of_decide_eq_true e;exact decide_eq_false fun z=>List.lt_irrefl _ (List.lt_trans e z)
 trans:=fun x y z _ _ _ e1 e2=>decide_eq_true (List.lt_trans (of_decide_eq_true e1) (of_decide_eq_true e2))
theorem CT {a : Addr} {M : List (Str × Value)} {n : Nat} {P : PySem.Fin -> Shared -> Prop} (ho : s.heap.get? a = some (seqObj "list" (M.map (·.2)).toArray n)) (hM : ∀ p ∈ M, (PySem.strKind prog w).is p.1 p.2 = true) (nd : (M.map (·.1)).Nodup) (hz : M.length < 100000)
    (q:∀ M':List (Str × Value),M'.Perm M->M'.Pairwise (fun x y=>x.1.cps.toList < y.1.cps.toList)->P (.done (.ret .none)) { s with heap:=sortedHeap s.heap a (M.map (·.2)) (M'.map (·.2)).toArray }) :
    wpAny (model prog w) A (Builtin.«list.sort» ⟨[.ref a],[]⟩) P E s:=by
 rw [list_sort_plain];have la:a < s.heap.objs.size:=Heap.lt_size ho;have ez:∀ l:List Value,l.zip l = l.map fun v=>(v,v):=fun l=>by
  induction l with
  | nil=>rfl
  | cons x l ih=>rw [List.zip_cons_cons,List.map_cons,ih]
 have Lw:((M.map (·.2)).toArray.zip (M.map (·.2)).toArray).toList = M.map fun p=>(p.2,p.2):=by
  rw [Array.toList_zip,List.toList_toArray,ez,List.map_map]
  rfl
 have CP:((M.map (·.2)).toArray.zip (M.map (·.2)).toArray).size = M.length:=by
  rw [<- Array.length_toList,Lw,List.length_map]
 refine wpAny_bind (listItems_at ho rfl ?_);refine wpAny_bind (listUpdate_at ho rfl ?_ (by rw [List.size_toArray,List.length_map,sizeLine_eq];omega) (Nat.zero_le _));obtain ⟨g,hg⟩:∃ g,(s.heap.update a (Obj.mapSeq fun _=>#[])).get? a = some (seqObj "list" #[] g):=⟨_,get?_update_seq ho (fun _=>#[])⟩
 refine wpAny_bind (seqEpoch_at hg rfl ?_);refine wpAny_bind (wpAny_newTuple ?_ (by rw [List.toList_toArray,List.length_map,sizeLine_eq];omega));refine wpAny_bind (wpAny_newList ?_ (Nat.zero_le _));refine wpAny_holding ?_;have h6:(((s.heap.update a (Obj.mapSeq fun _=>#[])).push (seqObj "tuple" (M.map (·.2)).toArray 0)).push (seqObj "list" #[] 0)).get? a = some (seqObj "list" #[] g):=by
  have n1:a ≠ (s.heap.update a (Obj.mapSeq fun _=>#[])).objs.size:=fun z=>by rw [Heap.size_update] at z;exact absurd la (Nat.not_lt_of_le (Nat.le_of_eq z.symm))
  have n2:a ≠ ((s.heap.update a (Obj.mapSeq fun _=>#[])).push (seqObj "tuple" (M.map (·.2)).toArray 0)).objs.size:=fun z=>by rw [size_push',Heap.size_update] at z;exact absurd la (Nat.not_lt_of_le (Nat.le_trans (Nat.le_succ _) (Nat.le_of_eq z.symm)))
  rw [Heap.get?_push_ne _ _ _ n2,Heap.get?_push_ne _ _ _ n1];exact hg
 show wpAny (model prog w) A _ P E { s with heap:=((s.heap.update a (Obj.mapSeq fun _=>#[])).push (seqObj "tuple" (M.map (·.2)).toArray 0)).push (seqObj "list" #[] 0) }
 dsimp only
 by_cases c:(M.map (·.2)).toArray.size < 2
 ·rw [if_pos c,if_pos c];refine wpAny_bind (wpAny_pure ?_);rw [StateT.run_pure];refine wpAny_bind (wpAny_pure ?_);dsimp only;have eo:(arrOf (SortSt.mk' general' ((M.map (·.2)).toArray.zip (M.map (·.2)).toArray) #[] 7 none)).map (·.2) = (M.map (·.2)).toArray:=by
   apply Array.toList_inj.mp;rw [Array.toList_map];show List.map _ ((M.map (·.2)).toArray.zip (M.map (·.2)).toArray).toList = _;rw [Lw,List.map_map]
   rfl
  rw [eo];refine wpAny_bind (seqEpoch_at h6 rfl ?_);refine wpAny_bind (listUpdate_at h6 rfl ?_ (Nat.zero_le _) (by rw [List.size_toArray,List.length_map,sizeLine_eq];omega));simp only [bne_self_eq_false,Bool.false_eq_true,if_false];refine wpAny_pure (q M (List.Perm.refl _) ?_);rw [List.size_toArray,List.length_map] at c
  match M,c with
  | [],_=>exact List.Pairwise.nil
  | [x],_=>exact List.pairwise_singleton _ _
  | x :: y :: l,c=>rw [List.length_cons,List.length_cons] at c;omega
 ·rw [if_neg c,if_neg c];rw [List.size_toArray,List.length_map] at c;have hS:=rq M hM;obtain ⟨v1,v2,r,er⟩:∃ v1 v2 r,M.map (·.2) = v1 :: v2 :: r:=by
   match M,c with
   | [],c=>exact absurd c (by simp)
   | [x],c=>exact absurd c (by simp)
   | x :: y :: l,_=>exact ⟨_,_,_,rfl⟩
  have ek:keyKind' (M.map (·.2)).toArray = pure oneType':=by rw [er];exact keyKind_strs (by rw [<- er];exact hS)
  rw [ek];refine wpAny_bind (wpAny_pure ?_);have C:=FQ (A:=A) (s:={ s with heap:=((s.heap.update a (Obj.mapSeq fun _=>#[])).push (seqObj "tuple" (M.map (·.2)).toArray 0)).push (seqObj "list" #[] 0) }) hM nd;have G:Gd (fun x=>x ∈ M.map fun p=>(p.2,p.2)) ((M.map (·.2)).toArray.zip (M.map (·.2)).toArray):=⟨fun x hx=>by rw [Lw] at hx;exact hx,by
   rw [Lw];refine eO (f:=rn) ?_;rw [List.map_map];have e:M.map (rn ∘ fun p=>(p.2,p.2)) = M.map (·.1):=List.map_congr_left fun p hp=>by
    obtain ⟨t,e⟩:=nE (hM p hp);show rn (p.2,p.2) = p.1;rw [e]
    rfl
   rw [e];exact nd⟩
  refine wpAny_bind (wpAny_mono (xp (E:=E) C G (by omega) (g:=7) (Q:=fun _ st=>∃ arr p g,st = Ms oneType' arr p g/\arr.Perm ((M.map (·.2)).toArray.zip (M.map (·.2)).toArray)/\Ups (fun x y=>decide ((rn x).cps.toList < (rn y).cps.toList)) arr 0 M.length) fun arr p g a1 a2=>⟨arr,p,g,rfl,a1,by rw [CP] at a2;exact a2⟩) ?_ fun _ _ e=>e)
  rintro ⟨⟨⟩,st⟩ s' ⟨rfl,arr,p,g',e,pm,up⟩;dsimp only at e;subst e;dsimp only;have Kd:=Array.perm_iff_toList_perm.mp pm;rw [Lw] at Kd;obtain ⟨M',p1,p2⟩:=perm_lift Kd M rfl;have eo:(arrOf (Ms oneType' arr p g')).map (·.2) = (M'.map (·.2)).toArray:=by
   apply Array.toList_inj.mp;rw [Array.toList_map];show arr.toList.map (·.2) = _;rw [p2,List.map_map]
   rfl
  rw [eo];refine wpAny_bind (seqEpoch_at h6 rfl ?_);refine wpAny_bind (listUpdate_at h6 rfl ?_ (Nat.zero_le _) (by rw [List.size_toArray,List.length_map,p1.length_eq,sizeLine_eq];omega));simp only [bne_self_eq_false,Bool.false_eq_true,if_false];refine wpAny_pure (q M' p1 ?_);have sz:0 + M.length <= arr.size:=by rw [pm.size_eq,CP];omega
  have:=up.srt sz;rw [List.drop_zero,List.take_of_length_le (by rw [Array.length_toList,pm.size_eq,CP];exact Nat.le_refl _),p2] at this;have:=List.pairwise_map.mp this;refine this.imp_of_mem fun {x y} hx hy h=>?_
  obtain ⟨t,e1⟩:=nE (hM x (p1.mem_iff.mp hx));obtain ⟨t',e2⟩:=nE (hM y (p1.mem_iff.mp hy));have h:=of_decide_eq_true h;dsimp only [rn] at h;rw [e1,e2] at h;exact h
end
section
variable {X:Cx} {K:W.Frag} {σ:St} {H:Hp} {Q:VK}
def AW (X:Cx):List V->Hp->VK->Prop:=fun xs H Q=>∃ (p:Addr) (ks:List Str),xs = [.ref p]/\H p = some (.ext (xh X p ks))/\ks.Nodup/\ks.length < 100000/\∀ (ns:List Str) l H1,ns.Perm ks->ns.Pairwise (fun x y=>x.cps.toList < y.cps.toList)->H l = none->Same H H1->H1 l = some (.lst (ns.map V.str))->Q (.ref l) H1
theorem EC (hc:X.calm = true:=by rfl):cF X (.builtin "sorted") (AW X):=by
 intro pins s σ H xs us Q I r h;obtain ⟨p,ks,rfl,hp,nd,hl,q⟩:=h;obtain ⟨u,rfl,ru⟩:=vals1 r
 cases (show u = Value.ref p from ru)
 have S:SW.SetW (PySem.strKind X.prog X.w) s.heap p ks:=(I.hok p _ hp).1;refine Calls.call_function_entry kind_sorted plain_sorted entry_sorted (args_sorted1 _) ?_;show wpAny _ _ (checkCount "sorted" 1 1 1 >>= _) _ _ _;refine wpAny_bind (wpAny_pure (wpAny_bind (SW.collect_set (A:=X.A.in1) (I.ok.hd hc) S fun h1 d tk M m1 m2 k1=>?_)))
 have ml:M.length = ks.length:=by rw [<- m1.length_eq,List.length_map]
 refine wpAny_bind (wpAny_newList ?_ (by rw [List.length_map,ml,sizeLine_eq];omega));have gL:(h1.push (seqObj "list" (M.map (·.2)).toArray 0)).get? h1.objs.size = some (seqObj "list" (M.map (·.2)).toArray 0):=Heap.get?_push_size _ rfl;refine wpAny_bind (wpAny_holding (wpAny_call_entry slot_list_sort ⟨_,gL,rfl⟩ entry_list_sort (CT gL m2 (m1.nodup_iff.mpr nd) (by omega) fun M' b1 b2=>⟨_,rfl,?_⟩) (args_list_sort _)))
 obtain ⟨e,he⟩:=sortedHeap_at (out:=(M'.map (·.2)).toArray) gL;have I1:Inv X pins σ H { s with heap:=h1,drawn:=d,toks:=tk }:=I.keptD k1;have k2:∀ b u,h1.get? b = some u->(sortedHeap (h1.push (seqObj "list" (M.map (·.2)).toArray 0)) h1.objs.size (M.map (·.2)) (M'.map (·.2)).toArray).get? b = some u:=fun b u z=>by
  have lb:=Heap.lt_size z;rw [sortedHeap_old (Nat.ne_of_lt lb) (by rw [size_push'];exact Nat.lt_succ_of_lt lb)];exact Heap.get?_push_of_some _ z
 have hn:H h1.objs.size = none:=I1.hok.fresh (Nat.le_refl _);have rv:Vals ((M'.map (·.1)).map V.str) (M'.map (·.2)):=tN (rq M' fun p hp=>m2 p (b1.mem_iff.mp hp))
 exact wpAny_pure ⟨_,rfl,.ref h1.objs.size,_,I1.laid (a:=h1.objs.size) (o:=.lst ((M'.map (·.1)).map V.str)) (t':=tk) k2 (Nat.le_refl _) ⟨by rw [List.length_map,List.length_map,b1.length_eq,ml,sizeLine_eq];omega,M'.map (·.2),e,rv,he⟩,rfl,q _ _ _ ((b1.map _).trans m1) (List.pairwise_map.mpr b2) hn (bh hn) aC⟩
theorem AM {p:Addr} (ks:List Str) (h1:H p = some (.ext (xh X p ks))) (nd:ks.Nodup) (h2:ks.length < 100000) (q:∀ (ns:List Str) l H1,ns.Perm ks->ns.Pairwise (fun x y=>x.cps.toList < y.cps.toList)->H l = none->Same H H1->H1 l = some (.lst (ns.map V.str))->Q (.ref l) H1):AW X [.ref p] H Q:=⟨p,ks,rfl,h1,nd,h2,q⟩
end
end L2
namespace L2
open PySem PySem.Spec PyProof.Rows
theorem fi (k n:Nat):max (0:Int) (min (if (k:Int) < 0 then (k:Int) + (n:Int) else (k:Int)) (n:Int)) = ((min k n:Nat):Int):=by rw [if_neg (by omega)];omega
theorem BK (i j n:Nat):Builtin.Str.strSliceIndices (some (i:Int)) (some (j:Int)) 1 n = Builtin.Str.strSliceIndices (some ((min i n:Nat):Int)) (some ((min j n:Nat):Int)) 1 n:=by
 show sliceRange (max (0:Int) (min (if (i:Int) < 0 then (i:Int) + (n:Int) else (i:Int)) (n:Int))) (max (0:Int) (min (if (j:Int) < 0 then (j:Int) + (n:Int) else (j:Int)) (n:Int))) 1
  = sliceRange (max (0:Int) (min (if ((min i n:Nat):Int) < 0 then ((min i n:Nat):Int) + (n:Int) else ((min i n:Nat):Int)) (n:Int))) (max (0:Int) (min (if ((min j n:Nat):Int) < 0 then ((min j n:Nat):Int) + (n:Int) else ((min j n:Nat):Int)) (n:Int))) 1
 rw [fi,fi,fi,fi,Nat.min_assoc,Nat.min_assoc,Nat.min_self]
theorem yw {z:Str} {i j:Nat} (h:i <= j):(Txt.slice z (some (i:Int)) (some (j:Int))).cps.toList = (z.cps.toList.drop i).take (j - i):=by
 have e:Txt.slice z (some (i:Int)) (some (j:Int)) = Txt.slice z (some ((min i z.length:Nat):Int)) (some ((min j z.length:Nat):Int)):=by
  unfold Txt.slice;rw [BK]
 rw [e,qw (by omega) (by omega),len_list]
 by_cases c:i <= z.cps.toList.length
 ·rw [Nat.min_eq_left c]
  by_cases d:j <= z.cps.toList.length
  ·rw [Nat.min_eq_left d]
  ·rw [Nat.min_eq_right (by omega),List.take_of_length_le (by rw [List.length_drop];omega),List.take_of_length_le (by rw [List.length_drop];omega)]
 ·rw [List.drop_eq_nil_of_le (show z.cps.toList.length <= i by omega),List.drop_eq_nil_of_le (show z.cps.toList.length <= min i z.cps.toList.length by omega),List.take_nil,List.take_nil]
theorem nM (z:Str) (j:Nat):(Txt.slice z none (some (j:Int))).cps.toList = z.cps.toList.take j:=by
 have e:Txt.slice z none (some (j:Int)) = Txt.slice z (some ((0:Nat):Int)) (some (j:Int)):=by
  unfold Txt.slice;rw [show Builtin.Str.strSliceIndices none (some (j:Int)) 1 z.length = Builtin.Str.strSliceIndices (some ((0:Nat):Int)) (some (j:Int)) 1 z.length from by
   show sliceRange 0 _ 1 = sliceRange (max (0:Int) (min (if ((0:Nat):Int) < 0 then ((0:Nat):Int) + (z.length:Int) else ((0:Nat):Int)) (z.length:Int))) _ 1
   rw [fi,Nat.zero_min]
   rfl]
 rw [e,yw (Nat.zero_le j),List.drop_zero,Nat.sub_zero]
theorem nN (z:Str) (i:Nat):(Txt.slice z (some (i:Int)) none).cps.toList = z.cps.toList.drop i:=by
 have e:Txt.slice z (some (i:Int)) none = Txt.slice z (some ((min i z.length:Nat):Int)) none:=by
  unfold Txt.slice;rw [show Builtin.Str.strSliceIndices (some (i:Int)) none 1 z.length = Builtin.Str.strSliceIndices (some ((min i z.length:Nat):Int)) none 1 z.length from by
   show sliceRange (max (0:Int) (min (if (i:Int) < 0 then (i:Int) + (z.length:Int) else (i:Int)) (z.length:Int))) _ 1 = sliceRange (max (0:Int) (min (if ((min i z.length:Nat):Int) < 0 then ((min i z.length:Nat):Int) + (z.length:Int) else ((min i z.length:Nat):Int)) (z.length:Int))) _ 1
   rw [fi,fi,Nat.min_assoc,Nat.min_self]]
 rw [e,jz (by omega) (by omega),Int.toNat_natCast,len_list]
 by_cases c:i <= z.cps.toList.length
 ·rw [Nat.min_eq_left c]
 ·rw [List.drop_eq_nil_of_le (show z.cps.toList.length <= i by omega),List.drop_eq_nil_of_le (by omega)]
end L2
namespace L2
open PySem PySem.Spec PySem.W PyProof.Rows
variable {H H':Hp} {c f cc T:Addr} {P:Program} {w:World} {K:W.Frag} {mg:Str->Option Value} {base:Heap} {qual p g iq:Str} {params ip:Arguments} {scope sC:Scope} {s:Shared} {v:V} {k:Nat} {pos jL:Pos} {X:Cx} {σ:St} {ib:List Stmt} {Q:VK}
def pE (name qual:Str) (params:Arguments) (body:List Stmt) (scope:Scope) (cl:List (Str × Addr)) (f c':Addr) (h:Heap):Prop:=∃ doc pm iG,h.get? f = some (fnMade name qual params body scope cl doc pm c' iG)
def xo (v:V) (c:Addr) (h:Heap):Prop:=∃ u,RelV v u/\h.IsCell c (some u)
def del (H:Hp) (c:Addr):Hp:=fun b=>if b = c then none else H b
theorem oV:del H c c = none:=if_pos rfl
theorem lO {b:Addr} (h:b ≠ c):del H c b = H b:=if_neg h
theorem oU {b:Addr} {o:HO} (h:del H c b = some o):b ≠ c/\H b = some o:=by
 unfold del at h
 split at h
 ·cases h
 ·exact ⟨by assumption,h⟩
def Np (P:Program) (w:World) (K:W.Frag) (mg:Str->Option Value) (base:Heap) (N:List Str) (qual:Str) (scope:Scope) (f:Addr) (cd:Value) (cl:List (Str × Addr)) (A:Around) (outer:List Env) (s:Shared) (H:Hp):Cx where
 prog:=P
 w:=w
 K:=K
 mg:=mg
 base:=base
 A:=A.deeper (envX qual scope s.heap.objs.size f cd cl)
 N:=N
 s₀:=s
 H₀:=H
 env:=envX qual scope s.heap.objs.size f cd cl
 outer:=outer
 stack:=envX qual scope s.heap.objs.size f cd cl :: outer
 ex:=[]
 calm:=true
 fn:=fun _=>false
 pn:=[]
 xe:=fun _ _=>False
structure pD (N ps:List Str) (p:Str) (ip:Nat) (sc:Scope):Prop where
 kind:sc.kind = .function
 co:sc.isCoroutine = false
 gen:sc.isGenerator = false
 nd:N.Nodup
 pre:N.take ps.length = ps
 par:∀ x ∈ ps,sc.names.lookup x = some .local
 nocell:∀ y ∈ sc.names,y.2 ≠ .cell
 isfree:sc.names.lookup p = some .free
 free:∀ y ∈ sc.names,y.2 = .free->y.1 = p
 at_:N[ip]? = some p
 behind:ps.length <= ip
section
theorem Ek {h:Heap} {P':Heap->Prop} (x:HOk P w H h) (e:H c = some (.ext P')):HOk P w (del H c) h:=fun a o q=>by
 obtain ⟨n,q⟩:=oU q;exact (x a o q).stay (fun b u _ r=>r) (fun b r=>by rw [lO (fun z=>by rw [z,e] at r;cases r)];exact r) fun b xs r=>by rw [lO (fun z=>by rw [z,e] at r;cases r)];exact r
theorem tj {x:Str} {u:Value}:∀ {ps:List Str} {us:List Value} {i:Nat},ps.Nodup->ps[i]? = some x->us[i]? = some u->(ps.zip us).reverse.lookup x = some u
 | [],us,i,_,h,_=>by simp at h
 | q :: ps,[],i,_,_,h=>by simp at h
 | q :: ps,v :: us,0,nd,h1,h2=>by
  simp at h1 h2;subst h1 h2;rw [List.nodup_cons] at nd;rw [List.zip_cons_cons,List.reverse_cons,List.lookup_append];have e:(ps.zip us).reverse.lookup q = none:=by
   rw [List.lookup_eq_none_iff];intro y hy;have:=(List.of_mem_zip (List.mem_reverse.mp hy)).1;have hne:q ≠ y.1:=fun z=>nd.1 (z ▸ this)
   simpa using hne
  rw [e];simp
 | q :: ps,v :: us,i + 1,nd,h1,h2=>by
  rw [List.nodup_cons] at nd;rw [List.zip_cons_cons,List.reverse_cons,List.lookup_append,tj (i:=i) nd.2 (by simpa using h1) (by simpa using h2)]
  rfl
theorem EB {name : Str} {body : List Stmt} {N ps : List Str} {ip : Nat} {c' : Addr} {A : Around} {outer : List Env} {us : List Value} {vs : List V} {Q : V -> Prop}
    (S:pD N ps p ip scope) (hr:Room (k + 1) A) (e0:qi P w K mg base A outer s H) (hf:H f = some (.ext (pE name qual params body scope [(p,cc)] f c'))) (hc:H c' = some (.ext (fB qual c'))) (qO:H cc = some (.ext (xo v cc)))
    (hb:∀ doc pm iG,bindArgs (fnX name qual params body scope [(p,cc)] .none .none doc pm none (.ref c') iG) ⟨us,[]⟩ = pure (ps.zip us)) (hl:vs.length = ps.length) (r:Vals vs us)
    (fe:Room k (A.deeper (envX qual scope s.heap.objs.size f (.ref c') [(p,cc)]))->∃ t,zI (Np P w K mg base N qual scope f (.ref c') [(p,cc)] A outer s (del H cc)) body t /\
     t { nx:=fun _ _=>False,rt:=fun v' H'=>H' = del H cc/\Q v' } ((start N vs).set ip (some v)) (del H cc)) :
    wpAny (model P w) A (call (.ref f) us) (CE outer P w H s fun v' H'=>H' = H/\Q v') (fun _ _=>False) s:=by
 obtain ⟨doc,pm,iG,gf⟩:=(e0.hok f _ hf).1;have Lj:s.heap.CodeRec (.ref c') qual:=(e0.hok c' _ hc).1;obtain ⟨uc,Xt,oc,TM,FD⟩:=(e0.hok cc _ qO).1;have lim:s.heap.NoLimit:=e0.mod.nolimit.keeps fun b o e=>(e0.bs b o e).1
 refine wpAny_call (codeAny_call_function hr.depth gf rfl S.co S.gen rfl Lj ?_);rw [hb];refine wpAny_pure (wpAny_newFunctionEnv S.nocell (fun y hy=>S.par y.1 (List.of_mem_zip hy).1) (fun h' hn M8=>?_) S.kind)
 have kp:∀ b o,s.heap.get? b = some o->h'.get? b = some o:=fun b o e=>by
  rw [M8.2 b (Nat.ne_of_lt (Heap.lt_size e))];exact Heap.get?_push_of_some _ e
 refine ⟨lim.keeps kp,codeAny_func ?_⟩;obtain ⟨t,ht,hq⟩:=fe (hr.deeper _);have fr:del H cc s.heap.objs.size = none:=by
  by_cases z:s.heap.objs.size = cc
  ·rw [z];exact oV
  ·rw [lO z];exact e0.hok.fresh (Nat.le_refl _)
 have M0:∀ x c,([(p,cc)]:List (Str × Addr)).lookup x = some c->x = p/\c = cc:=fun x c e=>by
  rw [List.lookup_cons] at e
  by_cases z:x = p
  ·subst z;simp at e;exact ⟨rfl,e.symm⟩
  ·rw [beq_eq_false_iff_ne.mpr z] at e;simp at e
 have XG:([(p,cc)]:List (Str × Addr)).lookup p = some cc:=by simp
 have sE:ps.length <= N.length:=by have:=congrArg List.length S.pre;rw [List.length_take] at this;omega
 have MZ:ps.Nodup:=by rw [<- S.pre];exact S.nd.sublist (List.take_sublist _ _)
 have hu:us.length = ps.length:=by rw [<- r.length,hl]
 have I:Inv (Np P w K mg base N qual scope f (.ref c') [(p,cc)] A outer s (del H cc)) [] ((start N vs).set ip (some v)) (del H cc) { s with heap:=h',toks:=s.toks + (ps.zip us).length }:=by
  have bs:∀ b o,base.get? b = some o->s.heap.get? b = some o/\del H cc b = none:=fun b o e=>by
   obtain ⟨q1,q2⟩:=e0.bs b o e;refine ⟨q1,?_⟩;unfold del
   split
   ·rfl
   ·exact q2
  have frf:∀ b ∈ ti outer,del H cc b = none:=fun b hb=>by
   unfold del
   split
   ·rfl
   ·exact e0.frf b hb
  have noex:∀ b:Addr,b ∉ ([]:List Addr):=fun b z=>by cases z
  refine ⟨⟨e0.mod,S.kind,rfl,rfl,Nat.le_refl _,fun x y c h1 h2=>?_,fun x hx=>?_,fun x c hx _=>?_,fun _=>hr.hd,Around.frames_deeper e0.frames,.inr ⟨rfl,rfl⟩,fun b z=>absurd z (noex b),bs,e0.bsz,fun b _ _=>noex b,fun b z=>absurd z (noex b),e0.funs,frf⟩,
   rfl,e0.bare,Un.kept kp,⟨_,hn,fun i x u h1 h2 h3=>?_⟩,fun x c h=>?_,fr,fun x c h=>?_,fun q hq=>absurd hq (by simp [Np]),(Ek e0.hok qO).kept kp,?_⟩
  ·rw [(M0 x c h1).1,(M0 y c h2).1]
  ·rcases hx with hx | hx
   ·exact absurd rfl (S.nocell _ (PySem.mem_of_lookup hx))
   ·have e:x = p:=S.free _ (PySem.mem_of_lookup hx) rfl;exact ⟨cc,by rw [e];exact XG⟩
  ·cases hx
  ·by_cases z:i = ip
   ·subst z;have ex:x = p:=by
     have jO:N[i]? = some x:=h1;rw [S.at_] at jO;exact (Option.some.inj jO).symm
    have oI:i < (start N vs).length:=by
     unfold start;rw [List.length_append,List.length_map,List.length_replicate];have:=(List.getElem?_eq_some_iff.mp S.at_).1;omega
    rw [List.getElem?_set_self oI] at h2
    cases h2
    exact ⟨uc,Xt,.inr ⟨.inr (by rw [ex];exact S.isfree),cc,by rw [ex];exact XG,oc,kp _ _ TM,FD⟩⟩
   ·rw [List.getElem?_set_ne (Ne.symm z)] at h2;have hi:i < vs.length:=by
     unfold start at h2
     by_cases hi:i < vs.length
     ·exact hi
     ·rw [List.getElem?_append_right (by simpa using hi),List.getElem?_replicate] at h2
      split at h2 <;> cases h2
    have ha:vs[i]? = some u:=by
     unfold start at h2;rw [List.getElem?_append_left (by simpa using hi),List.getElem?_map] at h2
     cases e:vs[i]? with
     | none=>rw [e] at h2;cases h2
     | some a=>rw [e] at h2;cases h2;rfl
    obtain ⟨u',hu',rv⟩:=r.get ha;have pJ:ps[i]? = some x:=by
     rw [<- S.pre,List.getElem?_take_of_lt (by omega)];exact h1
    exact ⟨u',rv,.inl ⟨S.par x (List.mem_of_getElem? pJ),tj MZ pJ hu'⟩⟩
  ·rw [(M0 x c h).2];exact ⟨_,oc,kp _ _ TM,FD⟩
  ·rw [(M0 x c h).2];exact oV
  ·rw [List.length_set];unfold start;show _ = N.length;rw [List.length_append,List.length_map,List.length_replicate];omega
 refine wpAny_mono (ht.h [] _ _ _ _ I hq) (fun fl s' hs=>?_) fun e s' hs=>hs.elim
 cases fl with
 | ret u =>
  obtain ⟨v',σ',H',J,rv,rfl,q⟩:=hs;have un:Un (ti outer) [] (del H cc) (del H cc) s.heap s'.heap:=J.base;have nb:cc ∉ ti outer:=fun z=>by rw [e0.frf cc z] at qO;cases qO
  have Ls:=un.keep cc oc TM oV nb (by simp);refine ⟨v',H,J.os,J.bare,⟨fun b o q1 q2 q3 q4=>un.keep b o q1 (by rw [lO (fun z=>by rw [z,qO] at q2;cases q2)];exact q2) q3 q4,fun b o q1 q2 q3 q4=>un.slot b o q1 (by rw [lO (fun z=>by rw [z,qO] at q2;cases q2)];exact q2) q3 q4,fun _ _ _ n _=>n,un.there,fun _ _ q=>q,fun _ _ _ q=>q,fun b ps q=>⟨#[],by rw [q];simp⟩⟩,fun a o q=>?_,rv,rfl,q⟩
  by_cases z:a = cc
  ·subst z;rw [qO] at q
   cases q
   refine ⟨⟨uc,Xt,oc,Ls,FD⟩,⟨oc,Ls⟩,fun h1 h2 x k=>?_⟩
   obtain ⟨u1,a1,o1,a2,a3⟩:=x;exact ⟨u1,a1,o1,k _ a2,a3⟩
  ·have:=J.hok a o (by rw [lO z];exact q);exact this.stay (fun b u _ r=>r) (fun b r=>(oU r).2) fun b xs r=>(oU r).2
 | next =>
  obtain ⟨_,_,_,q⟩:=hs;exact q.elim
 | brk =>
  obtain ⟨_,_,_,q⟩:=hs;exact q.elim
 | cont =>
  obtain ⟨_,_,_,q⟩:=hs;exact q.elim
end
def SameB (T:Addr) (H H':Hp):Prop:=∀ b o,H b = some o->b ≠ T->H' b = some o
theorem SameB.of (s:Same H H'):SameB T H H':=fun b o e _=>s b o e
theorem SameB.refl:SameB T H H:=fun _ _ e _=>e
theorem SameB.trans {H1 H2:Hp} (a:SameB T H H1) (b:SameB T H1 H2):SameB T H H2:=fun c o e n=>b c o (a c o e n) n
theorem SameB.toN {ps:Array Value} (s:SameB T H H') (h:H T = some (.tbl ps)):SameN H H':=fun b o e n=>s b o e fun z=>by rw [z,h] at e;cases e;exact n _ rfl
theorem TabOk.tbl {P:Addr} (h:TabOk P pos qual H):∃ ps,H P = some (.tbl ps):=let ⟨ps,a,_⟩:=h;⟨ps,a⟩
theorem TabOk.sameB {P:Addr} (h:TabOk P pos qual H) (s:SameB T H H') (n:P ≠ T) (hT:∃ ps,H T = some (.tbl ps)):TabOk P pos qual H':=by
 obtain ⟨ps,h1,h2,h3⟩:=h;obtain ⟨qs,hT⟩:=hT;exact ⟨ps,s _ _ h1 n,h2,h3.imp id fun ⟨c',a,b⟩=>⟨c',a,s _ _ b fun z=>by rw [z,hT] at b;cases b⟩⟩
section
variable {body:Expr} {P:Addr}
def JJ (qual:Str) (P:Addr) (params:Arguments) (body:Expr) (scope:Scope) (pos:Pos):TE:=fun _ H Q=>∃ ps,H P = some (.tbl ps)/\TriplesOk ps.toList/\codeAmong pos ps.toList = none /\
 ∀ f c' H' CJ,H f = none->H c' = none->SameB P H H'->(CJ = ps ++ #[rawInt ↑pos.line,rawInt ↑pos.col,Value.ref c']/\H' P = some (.tbl CJ))->H' f = some (.ext (vB (qual ++ Str.ofString "<lambda>") params body scope f c'))->H' c' = some (.ext (fB (qual ++ Str.ofString "<lambda>") c'))->Q (.ref f) H'
theorem DP (jN : X.env.code = .ref c) (hC : CodeHd X.base c P) (hB : X.base.BuiltinsAt X.mg P) (hd : defaultsOf params X.env = ([], []) := by rfl) (hc : closureFor scope X.env = pure [] := by rfl) (hg : X.env.globals = mainGlobals := by rfl) :
    PE X (.Lambda params body scope pos) (JJ X.env.qual P params body scope pos):=by
 intro pins s σ H Q I h;obtain ⟨ps,hP,ht,hn,q⟩:=h;have BU:s.heap.get? P = some (tabObj ps):=I.hok P _ hP;have wW:s.heap.Ns mainGlobals X.mg:=by
  obtain ⟨o,es,ep,e,r⟩:=I.mod.glob;exact ⟨o,es,ep,I.bk _ _ e,r⟩
 have hne:mainGlobals ≠ P:=fun z=>by
  obtain ⟨o,es,ep,e,d,r⟩:=I.mod.glob;have:=(I.bs _ _ e).2;rw [z,hP] at this
  cases this
 refine kla_eval hd (kla_makeFunction hc hg wW jN (hC.keeps I.bk) BU ht hn hne (hB.keeps I.bk) fun c' iG h' tk xb l1 l2 cr gP=>?_)
 have fc:H c' = none:=I.hok.fresh l1;have l3:s.heap.objs.size <= h'.objs.size:=Nat.le_trans l1 (Nat.le_of_lt l2);have ff:H h'.objs.size = none:=I.hok.fresh l3;have n1:c' ≠ h'.objs.size:=Nat.ne_of_lt l2;have pc:P ≠ c':=fun z=>by rw [z,fc] at hP;cases hP
 have pf:P ≠ h'.objs.size:=fun z=>by rw [z,ff] at hP;cases hP
 generalize Jo:ps ++ #[rawInt ↑pos.line,rawInt ↑pos.col,Value.ref c'] = CJ at gP;generalize ho:kla_obj (Str.ofString "<lambda>") (X.env.qual ++ Str.ofString "<lambda>") params body scope [] ((X.mg (Str.ofString "__name__")).getD Value.none) c' iG = ob;have gf:(h'.push ob).get? h'.objs.size = some ob:=Heap.get?_push_size _ (by rw [<- ho];rfl);let H':Hp:=upd (upd (upd H P (.tbl CJ)) c' (.ext (fB (X.env.qual ++ Str.ofString "<lambda>") c'))) h'.objs.size (.ext (vB (X.env.qual ++ Str.ofString "<lambda>") params body scope h'.objs.size c'))
 have eP:H' P = some (.tbl CJ):=by show upd _ _ _ _ = _;rw [ay pf,ay pc,aC]
 have ec:H' c' = some (.ext (fB (X.env.qual ++ Str.ofString "<lambda>") c')):=by show upd _ _ _ _ = _;rw [ay n1,aC]
 have ef:H' h'.objs.size = some (.ext (vB (X.env.qual ++ Str.ofString "<lambda>") params body scope h'.objs.size c')):=aC;have eo:∀ b,b ≠ P->b ≠ c'->b ≠ h'.objs.size->H' b = H b:=fun b a1 a2 a3=>by show upd _ _ _ _ = _;rw [ay a3,ay a2,ay a1]
 have ek:∀ b o,H b = some o->b ≠ P->H' b = some o:=fun b o e a1=>by
  rw [eo b a1 (fun z=>by rw [z,fc] at e;cases e) (fun z=>by rw [z,ff] at e;cases e)];exact e
 have kp:∀ b o,b ≠ P->s.heap.get? b = some o->(h'.push ob).get? b = some o:=fun b o a e=>Heap.get?_push_of_some _ (xb b o a e)
 have un:Un X.fs [] H H' s.heap (h'.push ob):=by
  refine ⟨fun b o e n _ _=>kp b o (fun z=>by rw [z,hP] at n;cases n) e,fun b o e n _ _=>⟨o.slots,kp b o (fun z=>by rw [z,hP] at n;cases n) e⟩,fun b o e n _=>?_,fun b o e _=>?_,fun b xs e=>ek b _ e (fun z=>by rw [z,hP] at e;cases e),fun b o u e=>ek b _ e (fun z=>by rw [z,hP] at e;cases e),fun b qs e=>?_⟩
  ·have lb:=Heap.lt_size e;rw [eo b (fun z=>by rw [z,hP] at n;cases n) (Nat.ne_of_lt (Nat.lt_of_lt_of_le lb l1)) (Nat.ne_of_lt (Nat.lt_of_lt_of_le lb l3))]
   exact n
  ·by_cases z:b = P
   ·exact ⟨_,by rw [z];exact Heap.get?_push_of_some _ gP⟩
   ·exact ⟨o,kp b o z e⟩
  ·by_cases z:b = P
   ·rw [z,hP] at e
    cases e
    exact ⟨#[rawInt ↑pos.line,rawInt ↑pos.col,Value.ref c'],by rw [z,eP,Jo]⟩
   ·exact ⟨#[],by rw [ek b _ e z,Array.append_empty]⟩
 have hok:HOk X.prog X.w H' (h'.push ob):=fun b o e=>by
  by_cases z1:b = h'.objs.size
  ·rw [z1,ef] at e
   cases e
   rw [z1];refine ⟨⟨_,_,by rw [ho];exact gf⟩,⟨_,gf⟩,fun h1 h2 x k=>?_⟩
   obtain ⟨pm,iG,e⟩:=x;exact ⟨pm,iG,k _ e⟩
  by_cases z2:b = c'
  ·rw [z2,ec] at e
   cases e
   rw [z2];obtain ⟨c0,o,vs,t,e1,e2,e3,e4⟩:=cr
   cases e1
   refine ⟨⟨c',o,vs,t,rfl,Heap.get?_push_of_some _ e2,e3,e4⟩,⟨o,Heap.get?_push_of_some _ e2⟩,fun h1 h2 x k=>?_⟩
   obtain ⟨c0,o,vs,t,e1,e2,e3,e4⟩:=x
   cases e1
   exact ⟨c',o,vs,t,rfl,k _ e2,e3,e4⟩
  by_cases z3:b = P
  ·rw [z3,eP] at e
   cases e
   rw [z3];exact Heap.get?_push_of_some _ gP
  ·rw [eo b z3 z2 z1] at e;refine (I.hok b o e).stay (fun c v hc r=>kp c v (fun z=>?_) r) (fun c r=>ek c _ r (fun z=>by rw [z,hP] at r;cases r)) fun c xs r=>ek c _ r (fun z=>by rw [z,hP] at r;cases r)
   rcases hc with hc | hc
   ·exact z3 (hc.symm.trans z)
   ·rw [z,hP] at hc;cases hc
 exact ⟨.ref h'.objs.size,H',I.un un hok,rfl,q _ c' H' CJ ff fc ek ⟨Jo.symm,eP⟩ ef ec⟩
def EV (qual:Str) (P:Addr) (params:Arguments) (body:Expr) (scope:Scope) (pos:Pos):TE:=fun _ H Q=>TabOk P pos (qual ++ Str.ofString "<lambda>") H /\
 ∀ f c' H',H f = none->SameB P H H'->TabOk P pos (qual ++ Str.ofString "<lambda>") H'->H' f = some (.ext (vB (qual ++ Str.ofString "<lambda>") params body scope f c'))->H' c' = some (.ext (fB (qual ++ Str.ofString "<lambda>") c'))->Q (.ref f) H'
theorem DO (jN : X.env.code = .ref c) (hC : CodeHd X.base c P) (hB : X.base.BuiltinsAt X.mg P) (hd : defaultsOf params X.env = ([], []) := by rfl) (hc : closureFor scope X.env = pure [] := by rfl) (hg : X.env.globals = mainGlobals := by rfl) :
    PE X (.Lambda params body scope pos) (EV X.env.qual P params body scope pos):=by
 intro pins s σ H Q I h;obtain ⟨⟨ps,hP,ht,hm⟩,q⟩:=h
 rcases hm with hm | ⟨c',hm,zi⟩
 ·refine DP jN hC hB hd hc hg pins s σ H Q I ⟨ps,hP,ht,hm,fun f c' H' CJ a1 a2 a3 a4 a5 a6=>?_⟩;obtain ⟨rfl,a4⟩:=a4;exact q f c' H' a1 a3 ⟨_,a4,by rw [Array.toList_append];exact TriplesOk_snoc _ _ _ _ ht,.inr ⟨c',by rw [Array.toList_append];exact codeAmong_snoc _ ht hm,a6⟩⟩ a5 a6
 ·have BU:s.heap.get? P = some (tabObj ps):=I.hok P _ hP;have wW:s.heap.Ns mainGlobals X.mg:=by
   obtain ⟨o,es,ep,e,r⟩:=I.mod.glob;exact ⟨o,es,ep,I.bk _ _ e,r⟩
  refine kla_eval hd (Ed hc hg wW jN (hC.keeps I.bk) BU ht hm (hB.keeps I.bk) fun iG=>?_)
  have ff:H s.heap.objs.size = none:=I.hok.fresh (Nat.le_refl _);have s1:=bh (o:=.ext (vB (X.env.qual ++ Str.ofString "<lambda>") params body scope s.heap.objs.size c')) ff;refine ⟨.ref s.heap.objs.size,_,I.laid (a:=s.heap.objs.size) (o:=.ext (vB (X.env.qual ++ Str.ofString "<lambda>") params body scope s.heap.objs.size c')) (t':=s.toks) (fun b u e=>Heap.get?_push_of_some _ e) (Nat.le_refl _) ?_,rfl,q _ c' _ ff (SameB.of s1) (TabOk.same ⟨ps,hP,ht,.inr ⟨c',hm,zi⟩⟩ s1) aC (s1 _ _ zi)⟩
  refine ⟨⟨_,_,Heap.get?_push_size _ rfl⟩,⟨_,Heap.get?_push_size _ rfl⟩,fun h1 h2 x k=>?_⟩
  obtain ⟨pm,iG,e⟩:=x;exact ⟨pm,iG,k _ e⟩
theorem IX (jN : X.env.code = .ref c) (hC : CodeHd X.base c P) (hB : X.base.BuiltinsAt X.mg P) (hd : defaultsOf params X.env = ([], []) := by rfl) (hc : closureFor scope X.env = pure [] := by rfl) (hg : X.env.globals = mainGlobals := by rfl) :
    BE X (.Lambda params body scope pos) (EV X.env.qual P params body scope pos):=⟨DO jN hC hB hd hc hg⟩
end
def E5 (T:Addr) (jL:Pos) (g iq:Str) (ip:Arguments) (ib:List Stmt) (sC:Scope) (p:Str):Sp:=fun vs H Q _=>∃ v,vs = [v]/\TabOk T jL iq H/\∀ ff c' cc H1,H ff = none->H cc = none->SameB T H H1->TabOk T jL iq H1->H1 ff = some (.ext (pE g iq ip ib sC [(p,cc)] ff c'))->H1 c' = some (.ext (fB iq c'))->H1 cc = some (.ext (xo v cc))->Q (.ref ff) H1
section
variable {pins:List (Addr × Obj)}
theorem Ce {cl : List (Str × Addr)} {fl : Nat} {E : Value -> Shared -> Prop} {Q : Value -> Shared -> Prop} (I : Inv X pins σ H s) (tf : closureFor sC X.env = pure cl) (jN : X.env.code = .ref c) (hC : CodeHd X.base c T) (hB : X.base.BuiltinsAt X.mg T) (ht : TabOk T jL iq H)
    (q:∀ ff c' s1 H1,H ff = none->SameB T H H1->TabOk T jL iq H1->H1 ff = some (.ext (pE g iq ip ib sC cl ff c'))->H1 c' = some (.ext (fB iq c'))->Inv X pins σ H1 s1->Q (.ref ff) s1) :
    wpAny (model X.prog X.w) X.A (makeFunction g iq ip (.stmts ib) sC X.env [] [] [] jL fl) Q E s:=by
 obtain ⟨ps,hP,ht,hm⟩:=ht;have BU:s.heap.get? T = some (tabObj ps):=I.hok T _ hP;have wW:s.heap.Ns mainGlobals X.mg:=by
  obtain ⟨o,es,ep,e,r⟩:=I.mod.glob;exact ⟨o,es,ep,I.bk _ _ e,r⟩
 have hne:mainGlobals ≠ T:=fun z=>by
  obtain ⟨o,es,ep,e,d,r⟩:=I.mod.glob;have:=(I.bs _ _ e).2;rw [z,hP] at this
  cases this
 rcases hm with hm | ⟨c',hm,zi⟩
 ·refine makeFunction_K (mg:=X.mg) tf I.ok.glob wW jN (hC.keeps I.bk) BU ht hm hne (hB.keeps I.bk) fun c' iG doc h' tk xb l1 l2 cr gP=>?_
  have fc:H c' = none:=I.hok.fresh l1;have l3:s.heap.objs.size <= h'.objs.size:=Nat.le_trans l1 (Nat.le_of_lt l2);have ff:H h'.objs.size = none:=I.hok.fresh l3;have n1:c' ≠ h'.objs.size:=Nat.ne_of_lt l2;have pc:T ≠ c':=fun z=>by rw [z,fc] at hP;cases hP
  have pf:T ≠ h'.objs.size:=fun z=>by rw [z,ff] at hP;cases hP
  generalize Jo:ps ++ #[rawInt ↑jL.line,rawInt ↑jL.col,Value.ref c'] = CJ at gP;generalize ho:fnMade g iq ip ib sC cl doc ((X.mg (Str.ofString "__name__")).getD Value.none) c' iG = ob;have gf:(h'.push ob).get? h'.objs.size = some ob:=Heap.get?_push_size _ (by rw [<- ho];rfl);let H':Hp:=upd (upd (upd H T (.tbl CJ)) c' (.ext (fB iq c'))) h'.objs.size (.ext (pE g iq ip ib sC cl h'.objs.size c'))
  have eP:H' T = some (.tbl CJ):=by show upd _ _ _ _ = _;rw [ay pf,ay pc,aC]
  have ec:H' c' = some (.ext (fB iq c')):=by show upd _ _ _ _ = _;rw [ay n1,aC]
  have ef:H' h'.objs.size = some (.ext (pE g iq ip ib sC cl h'.objs.size c')):=aC;have eo:∀ b,b ≠ T->b ≠ c'->b ≠ h'.objs.size->H' b = H b:=fun b a1 a2 a3=>by show upd _ _ _ _ = _;rw [ay a3,ay a2,ay a1]
  have ek:∀ b o,H b = some o->b ≠ T->H' b = some o:=fun b o e a1=>by
   rw [eo b a1 (fun z=>by rw [z,fc] at e;cases e) (fun z=>by rw [z,ff] at e;cases e)];exact e
  have kp:∀ b o,b ≠ T->s.heap.get? b = some o->(h'.push ob).get? b = some o:=fun b o a e=>Heap.get?_push_of_some _ (xb b o a e)
  have un:Un X.fs [] H H' s.heap (h'.push ob):=by
   refine ⟨fun b o e n _ _=>kp b o (fun z=>by rw [z,hP] at n;cases n) e,fun b o e n _ _=>⟨o.slots,kp b o (fun z=>by rw [z,hP] at n;cases n) e⟩,fun b o e n _=>?_,fun b o e _=>?_,fun b xs e=>ek b _ e (fun z=>by rw [z,hP] at e;cases e),fun b o u e=>ek b _ e (fun z=>by rw [z,hP] at e;cases e),fun b qs e=>?_⟩
   ·have lb:=Heap.lt_size e;rw [eo b (fun z=>by rw [z,hP] at n;cases n) (Nat.ne_of_lt (Nat.lt_of_lt_of_le lb l1)) (Nat.ne_of_lt (Nat.lt_of_lt_of_le lb l3))]
    exact n
   ·by_cases z:b = T
    ·exact ⟨_,by rw [z];exact Heap.get?_push_of_some _ gP⟩
    ·exact ⟨o,kp b o z e⟩
   ·by_cases z:b = T
    ·rw [z,hP] at e
     cases e
     exact ⟨#[rawInt ↑jL.line,rawInt ↑jL.col,Value.ref c'],by rw [z,eP,Jo]⟩
    ·exact ⟨#[],by rw [ek b _ e z,Array.append_empty]⟩
  have hok:HOk X.prog X.w H' (h'.push ob):=fun b o e=>by
   by_cases z1:b = h'.objs.size
   ·rw [z1,ef] at e
    cases e
    rw [z1];refine ⟨⟨_,_,_,by rw [ho];exact gf⟩,⟨_,gf⟩,fun h1 h2 x k=>?_⟩
    obtain ⟨dc,pm,iG,e⟩:=x;exact ⟨dc,pm,iG,k _ e⟩
   by_cases z2:b = c'
   ·rw [z2,ec] at e
    cases e
    rw [z2];obtain ⟨c0,o,vs,t,e1,e2,e3,e4⟩:=cr
    cases e1
    refine ⟨⟨c',o,vs,t,rfl,Heap.get?_push_of_some _ e2,e3,e4⟩,⟨o,Heap.get?_push_of_some _ e2⟩,fun h1 h2 x k=>?_⟩
    obtain ⟨c0,o,vs,t,e1,e2,e3,e4⟩:=x
    cases e1
    exact ⟨c',o,vs,t,rfl,k _ e2,e3,e4⟩
   by_cases z3:b = T
   ·rw [z3,eP] at e
    cases e
    rw [z3];exact Heap.get?_push_of_some _ gP
   ·rw [eo b z3 z2 z1] at e;refine (I.hok b o e).stay (fun c v hc r=>kp c v (fun z=>?_) r) (fun c r=>ek c _ r (fun z=>by rw [z,hP] at r;cases r)) fun c xs r=>ek c _ r (fun z=>by rw [z,hP] at r;cases r)
    rcases hc with hc | hc
    ·exact z3 (hc.symm.trans z)
    ·rw [z,hP] at hc;cases hc
  refine q h'.objs.size c' _ H' ff ek ⟨_,eP,?_,.inr ⟨c',?_,ec⟩⟩ ef ec (I.un un hok)
  ·rw [<- Jo,Array.toList_append];exact TriplesOk_snoc _ _ _ _ ht
  ·rw [<- Jo,Array.toList_append];exact codeAmong_snoc _ ht hm
 ·refine makeFunction_hit (mg:=X.mg) tf I.ok.glob wW jN (hC.keeps I.bk) BU ht hm (hB.keeps I.bk) fun iG doc h' tk kp l3=>?_
  have ff:H h'.objs.size = none:=I.hok.fresh l3;have s1:=bh (o:=.ext (pE g iq ip ib sC cl h'.objs.size c')) ff;refine q h'.objs.size c' _ _ ff (SameB.of s1) (TabOk.same ⟨ps,hP,ht,.inr ⟨c',hm,zi⟩⟩ s1) aC (s1 _ _ zi) (I.laid (a:=h'.objs.size) (o:=.ext (pE g iq ip ib sC cl h'.objs.size c')) (t':=tk) (fun b u e=>Heap.get?_push_of_some _ (kp b u e)) l3 ?_)
  refine ⟨⟨_,_,_,Heap.get?_push_size _ rfl⟩,⟨_,Heap.get?_push_size _ rfl⟩,fun h1 h2 x k=>?_⟩
  obtain ⟨dc,pm,iG,e⟩:=x;exact ⟨dc,pm,iG,k _ e⟩
end
section
theorem Cf {st : Stmt} {np rpos : Pos} {A : Around} {outer : List Env} {s1 : Shared} {E : XK} {bA : Value} (K1 : (aa st).names.lookup p = some .cell) (wW : (aa st).names.lookup g = some .local) (hpg : p ≠ g)
    (hb:aj st = [.FunctionDef g ip ib [] none [] sC none g jL,.Return (some (.Name g np)) rpos]) (Ju:ip.defaults = []) (FF:ip.kw_defaults = []) (ha:∀ env,annTrees ip none env = []) (tf:∀ env cc,env.cells.lookup p = some cc->closureFor sC env = pure [(p,cc)])
    (hq:∀ L cd,qualnameIn (envOfC qual (aa st) L f cd) g g = iq) (Tg:(g == ("__debug__":Str)) = false) (IB:bA = .ref c) (hC:CodeHd base c T) (hB:base.BuiltinsAt mg T)
    (e0:qi P w K mg base A outer s H) (qO:(cellsFrom (s.heap.objs.size + 1) (aa st).names []).lookup p = some cc) (above:s.heap.objs.size < cc) (I:Inv (gh cB P w K mg base [p,g] qual (aa st) f bA A outer s H E) [] (start [p,g] [v]) H s1) (ht:TabOk T jL iq H)
    (q:∀ ff c' cc H1,H ff = none->H cc = none->SameB T H H1->TabOk T jL iq H1->H1 ff = some (.ext (pE g iq ip ib sC [(p,cc)] ff c'))->H1 c' = some (.ext (fB iq c'))->H1 cc = some (.ext (xo v cc))->Q (.ref ff) H1) :
    wpAny (model P w) (A.deeper (envOfC qual (aa st) s.heap.objs.size f bA)) (execs (aj st) (envOfC qual (aa st) s.heap.objs.size f bA)) (fun fl s'=>∃ u,fl = .ret u/\CE outer P w H s Q u s') (fun _ _=>False) s1:=by
 rw [hb];refine wpAny_execs_cons (nestDef_K Ju FF (ha _) ?_);rw [hq];refine Ce (X:=gh cB P w K mg base [p,g] qual (aa st) f bA A outer s H E) I (tf _ cc qO) IB hC hB ht fun ff c' s2 H2 h1 h2 h3 h4 h5 I2=>?_
 refine j0 I2 (i:=1) (x:=g) (v:=.ref ff) (by simpa [gh] using hpg) rfl (.inl wW) rfl (fun s3 I3=>?_) (.inr wW);refine wpAny_execs_cons ?_;obtain ⟨m,hn,hl⟩:=I3.loc;obtain ⟨u,ru,lu⟩:=hl 1 g (.ref ff) rfl rfl (.inl wW);obtain ⟨u0,ru0,lu0⟩:=hl 0 p v rfl rfl (.inr (.inl K1))
 cases (show u = Value.ref ff from ru)
 have lg:m g = some (.ref ff):=by
  rcases lu with ⟨_,hm⟩ | ⟨hk,_⟩
  ·exact hm
  ·rcases hk with hk | hk
   ·rw [show (gh cB P w K mg base [p,g] qual (aa st) f bA A outer s H E).env.kindOf g = some .local from wW] at hk;cases hk
   ·rw [show (gh cB P w K mg base [p,g] qual (aa st) f bA A outer s H E).env.kindOf g = some .local from wW] at hk;cases hk
 have lc:s3.heap.IsCell cc (some u0):=by
  rcases lu0 with ⟨hk,_⟩ | ⟨_,c2,En,qN⟩
  ·rw [show (gh cB P w K mg base [p,g] qual (aa st) f bA A outer s H E).env.kindOf p = some .cell from K1] at hk;cases hk
  ·have Lk:(cellsFrom (s.heap.objs.size + 1) (aa st).names []).lookup p = some c2:=En;rw [qO] at Lk
   cases Lk
   exact qN
 refine wpAny_Return_some (wpAny_Name (wpAny_loadName_local I3.ok.kind wW hn lg ?_) Tg);have hcH:H cc = none:=e0.hok.fresh (Nat.le_of_lt above);have En:H2 cc = none:=I2.freeC p cc qO;have un:Un (ti outer) [] H H2 s.heap s3.heap:=I3.base;obtain ⟨oc,Yi,FD⟩:=lc;have Dj:=bh (o:=.ext (xo v cc)) En;refine ⟨.ref ff,rfl,.ref ff,upd H2 cc (.ext (xo v cc)),I3.os,I3.bare,⟨un.keep,un.slot,fun b o e n x=>?_,un.there,fun b xs e=>Dj _ _ (un.tups b xs e),fun b o u e=>Dj _ _ (un.frzs b o u e),fun b qs e=>?_⟩,fun a o e=>?_,rfl,?_⟩
 ·rw [ay (fun z=>by rw [z] at e;exact absurd (Heap.lt_size e) (Nat.lt_asymm above))]
  exact un.free b o e n x
 ·obtain ⟨more,e⟩:=un.tbls b qs e;exact ⟨more,Dj _ _ e⟩
 ·by_cases z:a = cc
  ·subst z;rw [aC] at e
   cases e
   refine ⟨⟨u0,ru0,oc,Yi,FD⟩,⟨oc,Yi⟩,fun h1 h2 x k=>?_⟩
   obtain ⟨u1,a1,o1,a2,a3⟩:=x;exact ⟨u1,a1,o1,k _ a2,a3⟩
  ·rw [ay z] at e;exact (I3.hok a o e).stay (fun b u _ r=>r) (fun b r=>Dj _ _ r) fun b xs r=>Dj _ _ r
 ·exact q ff c' cc _ h1 hcH (h2.trans (.of Dj)) (h3.same Dj) (Dj _ _ h4) (Dj _ _ h5) aC
theorem IM {x : Str} {st : Stmt} {fd : FuncData} {np rpos : Pos} (F : Fun K x qual st f fd) (S : ao [p, g] [p] (aa st)) (K1 : (aa st).names.lookup p = some .cell) (wW : (aa st).names.lookup g = some .local) (hpg : p ≠ g)
    (hb:aj st = [.FunctionDef g ip ib [] none [] sC none g jL,.Return (some (.Name g np)) rpos]) (Ju:ip.defaults = []) (FF:ip.kw_defaults = []) (ha:∀ env,annTrees ip none env = []) (tf:∀ env cc,env.cells.lookup p = some cc->closureFor sC env = pure [(p,cc)])
    (hq:∀ L cd,qualnameIn (envOfC qual (aa st) L f cd) g g = iq) (Tg:(g == ("__debug__":Str)) = false) (IB:fd.code = .ref c) (hC:CodeHd base c T) (hB:base.BuiltinsAt mg T) :
    FnOk P w K mg base cB (k + 1) f fd [p] (E5 T jL g iq ip ib sC p):=by
 obtain ⟨oc,od,kV,doc,pm,an,bA,ct,CK,rfl,lk,jN⟩:=F.ex;refine ⟨fun vs H Q E h=>by obtain ⟨v,rfl,_⟩:=h;rfl,fun A outer s H args us vs Q E hr e0 hbi r zF=>?_⟩
 obtain ⟨v,rfl,ht,q⟩:=zF;have KX:K.In s.heap:=e0.mod.kin.keeps fun b o e=>(e0.bs b o e).1
 have lim:s.heap.NoLimit:=e0.mod.nolimit.keeps fun b o e=>(e0.bs b o e).1
 have uS:∀ y ∈ [p].zip us,(aa st).names.lookup y.1 = some .local \/ ((aa st).names.lookup y.1 = some .cell/\((cellsFrom (s.heap.objs.size + 1) (aa st).names []).lookup y.1).isSome = true):=fun ⟨n,v⟩ hy=>by
  rcases S.par n (List.of_mem_zip hy).1 with q | q
  ·exact .inl q
  ·exact .inr ⟨q,W.cellsFrom_some _ _ _ (.inl q)⟩
 refine codeAny_call_function hr.depth (KX _ _ lk) rfl S.co S.gen rfl (W.codeRec_of KX jN) (hbi _ _ _ _ ?_);refine wpAny_newFunctionEnv_cells S.kind uS fun env he s1 xc=>?_
 subst he;refine ⟨lim.keeps xc.toInCall.keep,codeAny_func ?_⟩;have I:Inv (gh cB P w K mg base [p,g] qual (aa st) f bA A outer s H E) [] (start [p,g] [v]) H s1:=lL S hr.hd e0 rfl r xc;obtain ⟨cc,qO⟩:=oW (n:=s.heap.objs.size + 1) K1;have above:s.heap.objs.size < cc:=xc.above p cc (PySem.mem_of_lookup qO);refine wpAny_mono (Cf K1 wW hpg hb Ju FF ha tf hq Tg IB hC hB e0 qO above I ht q) (fun fl s' h=>?_) fun e s' h=>h.elim
 obtain ⟨u,rfl,h⟩:=h;exact h
end
def yf (P:Program) (w:World) (K:W.Frag) (mg:Str->Option Value) (base:Heap) (k:Nat) (ff:Addr) (vs:List V) (H:Hp) (Q:VK):Prop :=
 ∀ (A:Around) (outer:List Env) (s:Shared) (us:List Value),Room k A->qi P w K mg base A outer s H->Vals vs us->wpAny (model P w) A (call (.ref ff) us) (CE outer P w H s Q) (fun _ _=>False) s
def vD (H:Hp) (ff:Addr):Prop:=∃ g iq ip ib sC cl c',H ff = some (.ext (pE g iq ip ib sC cl ff c'))
def vY (P:Program) (w:World) (K:W.Frag) (mg:Str->Option Value) (base:Heap) (k:Nat) (tc:TE) (t:TA):TE:=fun σ H Q=>tc σ H fun fv H1=>∃ ff,fv = .ref ff/\vD H1 ff/\t σ H1 fun vs H2=>vD H2 ff/\yf P w K mg base k ff vs H2 Q
section
variable {callee e:Expr} {es:List Expr} {tc:TE} {t:TA}
theorem Cg {pins:List (Addr × Obj)} {ff:Addr} (I:Inv X pins σ H s) (h:vD H ff):FnAt ff s.heap:=by
 obtain ⟨g,iq,ip,ib,sC,cl,c',h⟩:=h;obtain ⟨doc,pm,iG,e⟩:=(I.hok ff _ h).1;exact ⟨_,_,_,_,e⟩
theorem Bf (hP : X.prog = P) (hw : X.w = w) (hK : X.K = K) (hm : X.mg = mg) (hb : X.base = base) (hr : Room k X.A) (hc : PE X callee tc) (ha : PA X (e :: es) t)
    (Ti:eval (.Call callee (e :: es) [] pos) X.env = (eval callee X.env >>= fun f=>callWith pos f [] (backTo pos (starEach (e :: es) X.env)) (backToKw pos (keywordEach [] X.env))):=by rfl)
    (he:starEach (e :: es) X.env = (false,eval e X.env) :: starEach es X.env:=by rfl) (sE:(backTo pos (starEach es X.env)).any (·.1) = false:=by rfl) :
    PE X (.Call callee (e :: es) [] pos) (vY P w K mg base k tc t):=by
 subst hP hw hK hm hb;intro pins s σ H Q I h;rw [Ti];refine wpAny_bind (cp (hc pins s σ H _ I h) fun f s1 ⟨fv,H1,I1,rf,ff,e1,h1,q⟩=>?_)
 subst e1
 cases (show f = Value.ref ff from rf)
 refine callWith_F (Cg I1 h1) (cp (ha pos pins s1 σ H1 _ I1 q) fun us s2 ⟨vs,H2,I2,r,h2,q2⟩=>⟨Cg I2 h2,?_⟩) he sE
 exact wpAny_mono (q2 X.A X.stack s2 us hr I2.env0 r) (fun u s3 hce=>I2.after hce) fun _ _ z=>z.elim
theorem EJ (hP : X.prog = P) (hw : X.w = w) (hK : X.K = K) (hm : X.mg = mg) (hb : X.base = base) (hr : Room k X.A) (hc : BE X callee tc) (ha : BA X (e :: es) t)
    (Ti:eval (.Call callee (e :: es) [] pos) X.env = (eval callee X.env >>= fun f=>callWith pos f [] (backTo pos (starEach (e :: es) X.env)) (backToKw pos (keywordEach [] X.env))):=by rfl)
    (h1:isStar e = false:=by rfl) (h2:noStar es = true:=by rfl) :
    BE X (.Call callee (e :: es) [] pos) (vY P w K mg base k tc t):=⟨Bf hP hw hK hm hb hr hc.h ha.h Ti (aJ h1) (cC h2)⟩
instance zc1:bH (vY P w K mg base k tc t σ H Q) (tc σ H fun fv H1=>∃ ff,fv = .ref ff/\vD H1 ff/\t σ H1 fun vs H2=>vD H2 ff/\yf P w K mg base k ff vs H2 Q):=⟨id⟩
theorem AE {name : Str} {body : List Stmt} {N ps : List Str} {ip : Nat} {c' : Addr} {vs : List V} {R : V -> Prop} (S : pD N ps p ip scope) (hf : H f = some (.ext (pE name qual params body scope [(p, cc)] f c'))) (hc : H c' = some (.ext (fB qual c'))) (qO : H cc = some (.ext (xo v cc)))
    (hb:∀ us doc pm iG,us.length = ps.length->bindArgs (fnX name qual params body scope [(p,cc)] .none .none doc pm none (.ref c') iG) ⟨us,[]⟩ = pure (ps.zip us)) (hl:vs.length = ps.length)
    (fe:∀ (A:Around) (outer:List Env) (s:Shared),Room k (A.deeper (envX qual scope s.heap.objs.size f (.ref c') [(p,cc)]))->∃ t,zI (Np P w K mg base N qual scope f (.ref c') [(p,cc)] A outer s (del H cc)) body t /\
     t { nx:=fun _ _=>False,rt:=fun v' H'=>H' = del H cc/\R v' } ((start N vs).set ip (some v)) (del H cc)) (q:∀ v',R v'->Q v' H):yf P w K mg base (k + 1) f vs H Q:=by
 intro A outer s us hr e0 r;refine wpAny_mono (EB (k:=k) S hr e0 hf hc qO (fun doc pm iG=>hb us doc pm iG (by rw [<- r.length,hl])) hl r fun CN=>fe A outer s CN) (fun u s' h=>?_) fun _ _ z=>z
 obtain ⟨v',H',a1,a2,a3,a4,a5,rfl,a6⟩:=h;exact ⟨v',H',a1,a2,a3,a4,a5,q v' a6⟩
end
end L2
namespace L2
open PySem PySem.Spec PyProof.Rows
theorem ObjOk.some {P:Program} {w:World} {H:Hp} {h:Heap} {a:Addr} {o:HO} (x:ObjOk P w H h a o):∃ ob,h.get? a = Option.some ob:=by
 cases o with
 | lst xs=>obtain ⟨_,_,_,_,e⟩:=x;exact ⟨_,e⟩
 | tup xs=>obtain ⟨_,_,_,ob,e,_⟩:=x;exact ⟨_,e⟩
 | dK az=>obtain ⟨_,_,_,_,o,_,_,e,_⟩:=x;exact ⟨_,e⟩
 | dT az=>obtain ⟨_,_,_,_,o,_,_,e,_⟩:=x;exact ⟨_,e⟩
 | set S n=>obtain ⟨o,_,_,_,e,_⟩:=x;exact ⟨_,e⟩
 | ins C dx fs=>obtain ⟨_,_,_,e,_⟩:=x;exact ⟨_,e⟩
 | own y=>obtain ⟨_,e⟩:=x;exact ⟨_,e⟩
 | xd fs=>obtain ⟨_,⟨_,_,_,e,_⟩,_⟩:=x;exact ⟨_,e⟩
 | rng lo hi=>obtain ⟨_,_,_,e⟩:=x;exact ⟨_,e⟩
 | frz ob u=>obtain ⟨e,_⟩:=x;exact ⟨_,e⟩
 | tbl ps=>exact ⟨_,(show h.get? a = Option.some _ from x)⟩
 | met f y=>exact ⟨_,(show h.get? a = Option.some _ from x)⟩
 | ext φ=>obtain ⟨_,⟨_,e⟩,_⟩:=x;exact ⟨_,e⟩
def OfCls (h:Heap) (x C:Addr):Prop:=∃ o,h.get? x = some o/\o.cls = .ref C
theorem OfCls.type {M:Model} {h:Heap} {x C:Addr} (I:OfCls h x C):W.Looks M h (typeOf (.ref x)) (.ref C):=by
 obtain ⟨o,e,c⟩:=I;exact c ▸ (W.Looks.ld e).andThen .now
end L2
namespace L2
open PySem PySem.Spec PySem.Calls PySem.W PyProof.Rows Builtin Builtin.ObjectAttr Builtin.Getset_descriptor
end L2
namespace L2
open PySem PySem.Spec PyProof.Rows
end L2
namespace L2
open PySem PySem.Spec PySem.Calls PySem.W PyProof.Rows Builtin Builtin.ObjectAttr Builtin.Getset_descriptor
end L2
namespace L2
open PySem PySem.Spec PyProof.Rows
end L2
namespace PySem
open Sem (wp)
end PySem
namespace L2
open PySem PySem.Spec PySem.Calls PySem.W PyProof.Rows Builtin Builtin.ObjectAttr Builtin.Getset_descriptor
end L2
namespace L2
open PySem PySem.Spec PyProof.Rows
def ExcO (C ea:Addr) (dc:Option Addr) (h:Heap):Prop:=∃ t,h.get? ea = some { cls:=.ref C,dict:=dc,data:=.fields #[.ref t,.none,.none,.none,.bool false,.none] }
theorem ExcO.ok {P:Program} {w:World} {H:Hp} {h:Heap} {C ea:Addr} {dc:Option Addr} (x:ExcO C ea dc h):ObjOk P w H h ea (.ext (ExcO C ea dc)) :=
 ⟨x,let ⟨_,e⟩:=x;⟨_,e⟩,fun _ _ y k=>let ⟨t,e⟩:=y;⟨t,k _ e⟩⟩
section
variable {X:Cx} {K:W.Frag} {σ:St} {H:Hp} {Q:VK} {o e i f value:Expr} {td ty tx tv:TE} {pos pos' apos cz:Pos}
instance yc7 {D:Ends}:bH (xE td ty tv D σ H) (tv σ H fun v H1=>td σ H1 fun x H2=>ty σ H2 fun y H3=>∃ a H4,x = .ref a/\DPut H3 a y v H4/\D.nx σ H4):=⟨id⟩
end
theorem Room.m {A:Around} {j k:Nat} (h:Room k A) (l:j <= k:=by first | decide | omega):Room j A:=h.mono l
end L2
namespace T24
open PySem L2
variable {P:Program} {w:World} {K:W.Frag} {mg:Str->Option Value} {base:Heap} {f a p p' r:Addr} {fd:FuncData} {H H':Hp} {Q:VK} {E:XK} {i c m n j sz least most:Int} {x z:Str} {σ:St} {v:V} {e:Ent} {κ:Type} {xs:List V} {es:List Ent} {zs:List Str} {ds:List Nat}
abbrev mE:Addr:=358
abbrev dB:Addr:=174
abbrev tabs:List Addr:=[mE,dB]
def top (i:Nat):Stmt:=PySem.Challenge.pw_tierstore_k24_texts_of_runs.main.body.getD i (.Pass ⟨0,0,0,0⟩)
abbrev bG:Stmt:=top 6
abbrev eW:Stmt:=top 7
abbrev cg:Stmt:=top 8
abbrev bI:Stmt:=top 9
abbrev ba:Stmt:=top 16
abbrev eX:Stmt:=top 17
abbrev dq:Stmt:=top 18
abbrev aX:Stmt:=top 19
abbrev dt:Stmt:=top 20
abbrev du:Stmt:=top 21
abbrev dP:Stmt:=top 22
abbrev cj:Stmt:=top 23
abbrev bq:Stmt:=top 26
abbrev dO:Stmt:=top 27
abbrev eV:Stmt:=top 28
abbrev bK:Stmt:=top 29
abbrev aO:Stmt:=top 30
abbrev eN:Stmt:=top 37
abbrev cq:Stmt:=top 38
abbrev dm:Stmt:=top 39
abbrev dk:Stmt:=top 40
abbrev dR:Stmt:=top 41
abbrev cv:Stmt:=top 42
abbrev cN:Stmt:=top 43
abbrev bW:Stmt:=top 44
abbrev aM:Stmt:=top 46
abbrev dv:Stmt:=top 55
abbrev cP:Stmt:=top 56
abbrev dQ:Stmt:=top 57
abbrev cM:Stmt:=top 58
abbrev cO:Stmt:=top 59
abbrev bo:Stmt:=top 60
abbrev cw:Stmt:=top 61
abbrev bJ:Stmt:=top 62
abbrev cQ:Stmt:=top 63
abbrev dn:Stmt:=top 64
abbrev bN:Stmt:=top 66
abbrev ck:Stmt:=top 67
abbrev br:Stmt:=top 68
abbrev cm:Stmt:=top 69
abbrev cR:Stmt:=top 70
abbrev bw:Stmt:=top 71
abbrev bx:Stmt:=top 72
abbrev aP:Stmt:=top 73
abbrev bM:Stmt:=top 74
abbrev aQ:Stmt:=top 75
abbrev bX:Stmt:=top 76
abbrev aY:Stmt:=top 77
abbrev bg:Stmt:=top 78
abbrev bf:Stmt:=top 79
abbrev bL:Stmt:=top 80
abbrev cx:Stmt:=top 81
abbrev dw:Stmt:=top 82
abbrev bp:Stmt:=top 83
abbrev bB:Stmt:=top 84
abbrev lW:Stmt:=top 85
structure Txt (K:W.Frag) (mg:Str->Option Value):Prop where
 f_are_figures:HasFn K mg "are_figures" bG ["text"]
 f_padded:HasFn K mg "padded" eW ["number","width"]
 f_read_padded:HasFn K mg "read_padded" cg ["text","least","most"]
 f_read_figures:HasFn K mg "read_figures" bI ["text","least","most"]
 f_is_plain_text:HasFn K mg "is_plain_text" ba ["thing","fewest","most"]
 f_is_key:HasFn K mg "is_key" eX ["thing"]
 f_is_value:HasFn K mg "is_value" dq ["thing"]
 f_is_whole_number:HasFn K mg "is_whole_number" aX ["thing"]
 f_is_stamp:HasFn K mg "is_stamp" dt ["thing"]
 f_is_entry:HasFn K mg "is_entry" du ["thing"]
 f_rank_of:HasFn K mg "rank_of" dP ["entry"]
 f_comes_ahead:HasFn K mg "comes_ahead" cj ["one","other"]
 f_text_of_rows:HasFn K mg "text_of_rows" bq ["rows"]
 f_rows_of:HasFn K mg "rows_of" dO ["text"]
 f_row_at:HasFn K mg "row_at" eV ["rows","line"]
 f_key_and_rest:HasFn K mg "key_and_rest" bK ["key","rest"]
 f_read_key_and_rest:HasFn K mg "read_key_and_rest" aO ["text"]
 f_probe:HasFn K mg "probe" eN ["factor"]
 f_places_of:HasFn K mg "places_of" cq ["key","size"]
 f_sieve_of:HasFn K mg "sieve_of" dm ["keys"]
 f_signs_of:HasFn K mg "signs_of" dk ["bits","many"]
 f_bits_of:HasFn K mg "bits_of" dR ["signs"]
 f_sieve_text:HasFn K mg "sieve_text" cv ["sieve"]
 f_read_size:HasFn K mg "read_size" cN ["text"]
 f_read_sieve:HasFn K mg "read_sieve" bW ["text"]
 f_sieve_of_entries:HasFn K mg "sieve_of_entries" aM ["entries"]
 f_check_of:HasFn K mg "check_of" dv ["text"]
 f_entry_row:HasFn K mg "entry_row" cP ["entry"]
 f_end_row:HasFn K mg "end_row" dQ ["ahead"]
 f_run_text:HasFn K mg "run_text" cM ["run"]
 f_read_head:HasFn K mg "read_head" cO ["row"]
 f_read_sieve_row:HasFn K mg "read_sieve_row" bo ["row"]
 f_read_entry:HasFn K mg "read_entry" cw ["row"]
 f_read_entries:HasFn K mg "read_entries" bJ ["rows","many"]
 f_check_end:HasFn K mg "check_end" cQ ["text","rows","line"]
 f_read_run:HasFn K mg "read_run" dn ["text"]
 f__law_cell_at:HasFn K mg "_law_cell_at" bN ["_law_script","_law_k"]
 f__law_stream:HasFn K mg "_law_stream" ck ["_law_cell","_law_many"]
 f__law_text_by:HasFn K mg "_law_text_by" br ["_law_x","_law_size","_law_some"]
 f__law_key_by:HasFn K mg "_law_key_by" cm ["_law_x"]
 f__law_near:HasFn K mg "_law_near" cR ["_law_named","_law_x"]
 f__law_value_by:HasFn K mg "_law_value_by" bw ["_law_x"]
 f__law_stamp_by:HasFn K mg "_law_stamp_by" bx ["_law_x"]
 f__law_entries_by:HasFn K mg "_law_entries_by" aP ["_law_cell","_law_many"]
 f__law_many_by:HasFn K mg "_law_many_by" bM ["_law_cell"]
 f__law_in_order:HasFn K mg "_law_in_order" aQ ["_law_entries"]
 f__law_sieve:HasFn K mg "_law_sieve" bX ["_law_entries"]
 f__law_entry_same:HasFn K mg "_law_entry_same" aY ["_law_told","_law_due"]
 f__law_all_same:HasFn K mg "_law_all_same" bg ["_law_told","_law_due"]
 f__law_run_same:HasFn K mg "_law_run_same" bf ["_law_told","_law_entries"]
 f__law_rows_by:HasFn K mg "_law_rows_by" bL ["_law_script","_law_at"]
 f__law_check:HasFn K mg "_law_check" cx ["_law_text"]
 f__law_row:HasFn K mg "_law_row" dw ["_law_entry"]
 f__law_sieve_row:HasFn K mg "_law_sieve_row" bp ["_law_entries"]
 f__law_lines:HasFn K mg "_law_lines" bB ["_law_entries"]
 c__law_in_order:∃ f fd cd,Fn K mg "_law_in_order" aQ ["_law_entries"] f fd/\fd.code = .ref cd/\W.codeHdIn K cd mE = true
 c_probe:∃ f fd cd,Fn K mg "probe" eN ["factor"] f fd/\fd.code = .ref cd/\W.codeHdIn K cd dB = true
 g_FIGURES:∃ u,mg "FIGURES" = some u/\RelV (.str (PySem.Str.ofString "0123456789")) u
 g_LOWEST_SIGN:∃ u,mg "LOWEST_SIGN" = some u/\RelV (.str (PySem.Str.ofString " ")) u
 g_HIGHEST_SIGN:∃ u,mg "HIGHEST_SIGN" = some u/\RelV (.str (PySem.Str.ofString "~")) u
 g_LONGEST_KEY:∃ u,mg "LONGEST_KEY" = some u/\RelV (.int 20) u
 g_LONGEST_VALUE:∃ u,mg "LONGEST_VALUE" = some u/\RelV (.int 40) u
 g_GREATEST_STAMP:∃ u,mg "GREATEST_STAMP" = some u/\RelV (.int 999999999) u
 g_KEY_FIGURES:∃ u,mg "KEY_FIGURES" = some u/\RelV (.int 2) u
 g_FACTORS:∃ a,(∃ u,mg "FACTORS" = some u/\RelV (.ref a) u)/\∀ H,SqT K H a [.int 31,.int 37,.int 41]
 g_FIRST_NUMBER_sieves:∃ u,mg "FIRST_NUMBER_sieves" = some u/\RelV (.int 7) u
 g_MODULUS_sieves:∃ u,mg "MODULUS_sieves" = some u/\RelV (.int 1000003) u
 g_SIGNS:∃ u,mg "SIGNS" = some u/\RelV (.str (PySem.Str.ofString "abcdefghijklmnop")) u
 g_GREATEST_SIZE:∃ u,mg "GREATEST_SIZE" = some u/\RelV (.int 999992) u
 g_FIRST_NUMBER_runfiles:∃ u,mg "FIRST_NUMBER_runfiles" = some u/\RelV (.int 7) u
 g_FACTOR:∃ u,mg "FACTOR" = some u/\RelV (.int 31) u
 g_MODULUS_runfiles:∃ u,mg "MODULUS_runfiles" = some u/\RelV (.int 9973) u
 g_MOST_ENTRIES:∃ u,mg "MOST_ENTRIES" = some u/\RelV (.int 9999) u
 g_HEAD_LINE:∃ u,mg "HEAD_LINE" = some u/\RelV (.int 1) u
 g_SIEVE_LINE:∃ u,mg "SIEVE_LINE" = some u/\RelV (.int 2) u
 g_FIRST_ENTRY_LINE:∃ u,mg "FIRST_ENTRY_LINE" = some u/\RelV (.int 3) u
 b__law_entry:mg "_law_entry" = none
 b_all:mg "all" = none
 b_bool:mg "bool" = none
 b_int:mg "int" = none
 b_isinstance:mg "isinstance" = none
 b_key:mg "key" = none
 b_len:mg "len" = none
 b_max:mg "max" = none
 b_ord:mg "ord" = none
 b_place_of:mg "place_of" = none
 b_range:mg "range" = none
 b_set:mg "set" = none
 b_size:mg "size" = none
 b_sorted:mg "sorted" = none
 b_str:mg "str" = none
 b_tuple:mg "tuple" = none
local macro_rules | `(tactic| lcg_src) => `(tactic| first | with_reducible assumption | ((with_reducible refine' Same.get ?s ?e); (case s => with_reducible assumption); (case e => lcg_src)))
local macro_rules | `(tactic| lcg_sub) => `(tactic| first | with_reducible assumption | with_reducible exact Same.refl _ | ((with_reducible refine' Same.tr ?s ?e); (case s => with_reducible assumption); (case e => lcg_sub)))
local macro_rules | `(tactic| keq_rows) => `(tactic| first | with_reducible assumption | with_reducible exact Rep.int' | with_reducible exact Rep.str' | with_reducible exact Rep.bl' | with_reducible exact Rep.non' | ((with_reducible refine' Rep.same ?s ?e); (case s => with_reducible assumption); (case e => keq_rows)) | ((with_reducible refine' Rep.mkT ?c ?_); (case c => lcg_src); keq_hits) | ((with_reducible refine' Rep.mkL ?c ?_); (case c => lcg_src); keq_hits) | ((with_reducible refine' Rep.mkD ?c); (case c => lcg_src)))
local macro_rules | `(tactic| keq_hits) => `(tactic| first | with_reducible assumption | with_reducible exact Reps.nil' | ((with_reducible refine' Reps.cons' ?c ?_); (case c => keq_rows); keq_hits) | ((with_reducible refine' Reps.same ?s ?e); (case s => with_reducible assumption); (case e => keq_hits)))
local macro_rules | `(tactic| tlg_ne) => `(tactic| first | with_reducible assumption | ((with_reducible refine' SqL.of ?c); (case c => lcg_src)) | ((with_reducible refine' SqT.of ?c); (case c => lcg_src)) | ((with_reducible refine' SqL.same ?s ?e); (case s => with_reducible assumption); (case e => tlg_ne)))
local macro_rules | `(tactic| kpc_turns) => `(tactic| first | decide | omega | (constructor <;> first | decide | omega))
local macro_rules | `(tactic| kas_types) => `(tactic| simp only [cxK, Vz, LD, Af, Ae, Ad])
local macro_rules | `(tactic| kpt_turns) => `(tactic| first
 | refine JW ?_
 | ((with_reducible refine' AO ?c ?_);(case c=>kpc_turns))
 | ((with_reducible refine' Dq ?c ?_);(case c=>kpc_turns))
 | ((with_reducible refine' Dl ?c ?_);(case c=>first | exact .inl (by kpc_turns) | exact .inr (by kpc_turns)))
 | ((with_reducible refine' GC ?c ?_);(case c=>(simp only [List.length_cons,List.length_nil];decide));intro _ _ _ _)
 | ((with_reducible refine' GD ?c ?_);(case c=>(simp only [List.length_cons,List.length_nil];decide));intro _ _ _ _ _)
 | ((with_reducible refine' AQ ?c ?d ?_);(case c=>tlg_ne);(case d=>exact rfl))
 | ((with_reducible refine' ig ?c ?d ?_);(case c=>tlg_ne);(case d=>exact rfl))
 | ((with_reducible refine' GL ?c ?_);(case c=>lcg_src))
 | ((with_reducible refine' GO ?c ?_);(case c=>lcg_src))
 | ((with_reducible refine' GP ?c ?_);(case c=>lcg_src))
 | ((with_reducible refine' xG ?c ?_);(case c=>tlg_ne))
 | ((with_reducible refine' xH ?c ?_);(case c=>tlg_ne))
 | ((with_reducible refine' kh ?c ?_);(case c=>first | assumption | (show _ <= 16777216;decide) | omega))
 | ((with_reducible refine' OJ ?c ?d ?_);(case c=>tlg_ne);(case d=>simp [HT.sIx];done);intro _ _ _ h;(simp [mT,HT.sIx] at h))
 | ((with_reducible refine' GY ?c ?_);(case c=>lcg_src))
 | ((with_reducible refine' Gy ?c ?_);(case c=>omega))
 | ((with_reducible refine' MU ?_);intro _ _ _ _ _)
 | ((with_reducible refine' OK ?c ?_);(case c=>kpc_turns))
 | ((with_reducible refine' GU ?c ?_);(case c=>tlg_ne))
 | ((with_reducible refine' GS ?c ?_);(case c=>tlg_ne))
 | ((with_reducible refine' Ds ?c ?_);(case c=>kpc_turns))
 | ((with_reducible refine' Dr ?c ?_);(case c=>refine ⟨?_,?_,?_,?_⟩ <;> first | decide | omega))
 | ((with_reducible refine' Dp ?c ?d ?_);(case c=>tlg_ne);(case d=>exact rfl))
 | ((with_reducible refine' JV ?c ?_);(case c=>tlg_ne);intro _ _ _ _ _)
 | ((with_reducible refine' JU ?c ?_);(case c=>tlg_ne);intro _ _ _ _ _)
 | ((with_reducible refine' nq ?c ?d ?e ?_);(case c=>lcg_src);(case d=>lcg_src);(case e=>first | (simp only [List.length_cons,List.length_nil];decide) | (simp only [List.length_cons,List.length_nil,List.length_append,sizeLine_eq];omega));intro _ _ _ _ h;(try simp only [List.cons_append,List.nil_append] at h))
 | ((with_reducible refine' MV ?c ?d ?f ?e ?_);(case c=>lcg_src);(case d=>lcg_src);(case f=>(intro h;cases h));(case e=>first | (simp only [List.length_cons,List.length_nil];decide) | (simp only [List.length_cons,List.length_nil,List.length_append,sizeLine_eq];omega));intro _ _ _ h;(try simp only [List.cons_append,List.nil_append] at h)))
local macro_rules | `(tactic| lcg_off) => `(tactic| repeat kpt_turns)
local macro_rules | `(tactic| kaf_pre) => `(tactic| ((with_reducible refine' MT ?c ?a ?b ?_); (case c => tlg_ne); (case a => first | exact Int.emod_nonneg _ (by decide) | omega); (case b => first | exact Int.emod_lt_of_pos _ (by decide) | (simp only [List.length_cons, List.length_nil]; omega))))
local macro_rules | `(tactic| kaf_suf) => `(tactic| ((with_reducible refine' nj ?c ?a ?b ?_); (case c => tlg_ne); (case a => first | exact Int.emod_nonneg _ (by decide) | omega); (case b => first | exact Int.emod_lt_of_pos _ (by decide) | (simp only [List.length_cons, List.length_nil]; omega))))
section
def Ao (K:W.Frag):Sp:=fun vs H Q _=>∃ (a:Addr) (ns:List Int) (k:Nat),vs = [.ref a,.int k]/\SqL K H a (ns.map V.int)/\Q (.int (ns.getD k 0)) H
theorem mK:ao ["_law_script","_law_k"] ["_law_script","_law_k"] (aa bN):=⟨rfl,rfl,rfl,by decide +kernel,rfl,by decide +kernel,by decide +kernel⟩
theorem gW (T:Txt K mg) (N:Fn K mg "_law_cell_at" bN ["_law_script","_law_k"] f fd):FnOk P w K mg base cB (1) f fd ["_law_script","_law_k"] (Ao K):=by
 refine N.fu.okB mK (fun vs H Q E h=>?_) (fun bA A outer s H vs Q E hr h=>?_)
 ·obtain ⟨a,ns,k,rfl,_⟩:=h
  rfl
 ·obtain ⟨a,ns,k,rfl,hS,q⟩:=h;refine ⟨_,(af (aH (aB wH (bv 1) (dH bO T.b_len (by kernel_rfl) (ag (bv 0) ae rfl)) (aw _))
   (ah (ai (aI au (bv 0) (bv 1) (fun _ _=>rfl))))
   av)
  (ah (ai b_int))),?_⟩
  kas_types;lcg_off;refine aF (fun h1=>?_) (fun h1=>?_)
  ·rw [List.length_map] at h1;have hk:k < ns.length:=by omega
   lcg_off;refine ig hS (d6 (v:=.int (ns.getD k 0)) ?_) q;rw [List.getElem?_map,List.getElem?_eq_getElem hk,List.getD_eq_getElem?_getD,List.getElem?_eq_getElem hk]
   rfl
  ·rw [List.length_map] at h1;have e:ns.getD k 0 = 0:=by
    rw [List.getD_eq_getElem?_getD,List.getElem?_eq_none (by omega)]
    rfl
   rw [e] at q;lcg_off;exact q
theorem kB {ns:List Int} {k:Nat} (hS:SqL K H a (ns.map V.int)) (hi:i = (k:Int)) (q:Q (.int (ns.getD k 0)) H):Ao K [.ref a,.int i] H Q E:=⟨a,ns,k,by rw [hi],hS,q⟩
theorem la (x y:Str):(x ++ y).length = x.length + y.length:=by rw [len_list,app_list,List.length_append,<- len_list,<- len_list]
theorem lx {lo hi:Option Int} (hx:x.length <= 5000) (h:Q (.str (Txt.slice x lo hi)) H):yH K (.str x) lo hi H Q:=eY (by rw [sizeLine_eq];omega) h
def tQ:Sp:=fun vs H Q _=>∃ c m:Int,vs = [.int c,.int m]/\0 <= m/\m <= 5000/\∀ p H' (ns:List Int),H p = none->Same H H'->H' p = some (.lst (ns.map V.int))->ns.length = m.toNat->(∀ n ∈ ns,0 <= n)->Q (.ref p) H'
theorem cL:ao ["_law_cell","_law_many","_law_found","_law_number","_law_k"] ["_law_cell","_law_many"] (aa ck):=⟨rfl,rfl,rfl,by decide +kernel,rfl,by decide +kernel,by decide +kernel⟩
theorem iA (T:Txt K mg) (N:Fn K mg "_law_stream" ck ["_law_cell","_law_many"] f fd):FnOk P w K mg base cB (1) f fd ["_law_cell","_law_many"] (tQ):=by
 refine N.fu.okB cL (fun vs H Q E h=>?_) (fun bA A outer s H vs Q E hr h=>?_)
 ·obtain ⟨c,m,rfl,_⟩:=h
  rfl
 ·obtain ⟨c,m,rfl,h0,hm,q⟩:=h;refine ⟨_,(af (ak (i:=2) cL.nd rfl (by first | exact Or.inl rfl | exact Or.inr rfl) (fj ae))
  (af (ak (i:=3) cL.nd rfl (by first | exact Or.inl rfl | exact Or.inr rfl) (ar aN (bv 0) b_int))
  (af (eF PassesOwn.never rfl (ya T.b_range (ag (bv 1) ae rfl)) (cJ (i:=4) cL.nd rfl (by first | exact Or.inl rfl | exact Or.inr rfl))
   (af (ak (i:=3) cL.nd rfl (by first | exact Or.inl rfl | exact Or.inr rfl) (ar aN (ar aG (ar aG (ar dJ (bv 3) b_int) b_int) (bv 4)) b_int))
  (ah (nz (lQ (bv 2) (ag (ar aZ (bv 3) b_int) ae rfl))))))
  (ah (ai (bv 2)))))),?_⟩
  kas_types;lcg_off;rename_i l Hl Iy sl hl;refine forR (fun i σ H'=>∃ (ns:List Int) (nb:Int) (o:Option V),σ = [some (.int c),some (.int m),some (.ref l),some (.int nb),o]/\Same H H'/\H' l = some (.lst (ns.map V.int))/\ns.length = i/\(∀ n ∈ ns,0 <= n))
   ⟨[],_,none,rfl,sl,hl,rfl,fun n hn=>(nomatch hn)⟩ (fun i σ H' hi h=>?_) (fun σ H' h=>?_)
  ·obtain ⟨ns,nb,o,rfl,s1,hx,hlen,BR⟩:=h;lcg_off;refine iU hx (by rw [List.length_map,hlen,sizeLine_eq];omega) ?_;lcg_off;refine ⟨ns ++ [(nb * 48271 + 11 + (0 + (i:Int))) % 2147483647 / 13],_,_,rfl,fX s1 Iy,?_,?_,?_⟩
   ·rw [aC,List.map_append]
    rfl
   ·rw [List.length_append,hlen]
    rfl
   ·intro n hn
    rcases List.mem_append.mp hn with h1 | h1
    ·exact BR n h1
    ·rw [List.mem_singleton.mp h1];exact Int.ediv_nonneg (Int.emod_nonneg _ (by decide)) (by decide)
  ·obtain ⟨ns,nb,o,rfl,s1,hx,hlen,BR⟩:=h;lcg_off;exact q l H' ns Iy s1 hx hlen BR
theorem nJ (h0:0 <= m) (hm:m <= 5000) (q:∀ p H' (ns:List Int),H p = none->Same H H'->H' p = some (.lst (ns.map V.int))->ns.length = m.toNat->(∀ n ∈ ns,0 <= n)->Q (.ref p) H'):tQ [.int c,.int m] H Q E:=⟨c,m,rfl,h0,hm,q⟩
def nr (z:Str):Prop:=z.cps.toList.all dU = true
def tP:Sp:=fun vs H Q _=>∃ (n m:Int) (b:Bool),vs = [.int n,.int m,.bl b]/\0 <= m/\m <= 1000/\∀ (z:Str) H',(z.length:Int) = m->nr z->Same H H'->Q (.str z) H'
theorem dh:ao ["_law_x","_law_size","_law_some","_law_signs"] ["_law_x","_law_size","_law_some"] (aa br):=⟨rfl,rfl,rfl,by decide +kernel,rfl,by decide +kernel,by decide +kernel⟩
theorem gU (T:Txt K mg) (N:Fn K mg "_law_text_by" br ["_law_x","_law_size","_law_some"] f fd):FnOk P w K mg base cB (2) f fd ["_law_x","_law_size","_law_some"] (tP):=by
 obtain ⟨_,_,df⟩:=T.f__law_stream;have fS:=iA (P:=P) (w:=w) (base:=base) T df;refine N.fu.okB dh (fun vs H Q E h=>?_) (fun bA A outer s H vs Q E hr h=>?_)
 ·obtain ⟨n,m,b,rfl,_⟩:=h
  rfl
 ·obtain ⟨n,m,b,rfl,h0,hm,q⟩:=h;refine ⟨_,(af (ak (i:=3) dh.nd rfl (by first | exact Or.inl rfl | exact Or.inr rfl) b_str)
  (af (ak (i:=3) dh.nd rfl (by first | exact Or.inl rfl | exact Or.inr rfl) (ar aG (bv 3) b_str))
  (af (aH (bC (bv 2) (fun _=>rfl))
   (ah (ak (i:=3) dh.nd rfl (by first | exact Or.inl rfl | exact Or.inr rfl) b_str))
   av)
  (ah (ai (kE b_str (ag (jh (x:="_law_y") (ix:=[3]) (fv:=["_law_signs"]) (osc:=aa br) rfl ⟨rfl,by decide +kernel,by decide +kernel,by rfl,by decide +kernel,by decide +kernel,by decide +kernel⟩ (by rfl) (d5 (bT df fS (hr.mono (by first | decide | omega)) (ag (bv 0) (ag (bv 1) ae rfl) rfl))) (fun _ _ _ _=>dA) (fun _ _ _ _=>(aI (gG (K:=K) rfl) (bv 1) (ar aN (bv 0) (dH (IQ (K:=K) rfl) T.b_len (by kernel_rfl) (ag (bv 1) ae rfl))) (fun _ _=>rfl)))) ae rfl))))))),?_⟩
  kas_types;lcg_off;refine aS (by decide +kernel) ?_;lcg_off;generalize FA:(Str.ofString " !\"#$&'()*+,-./0123456789:;<=>?@ABCDEFGHIJKLMNOPQRSTUVWXYZ[\\]^_`" ++ Str.ofString "abcdefghijklmnopqrstuvwxyz{|}~") = sgn;have KZ:sgn.length = 94:=by rw [<- FA];decide +kernel
  have hsg:nr sgn:=by rw [<- FA];unfold nr;decide +kernel
  refine BH (fun σ' H'=>∃ sg:Str,0 < sg.length/\sg.length <= 94/\nr sg/\σ' = [some (.int n),some (.int m),some (.bl b),some (.str sg)]/\H' = H) (fun σ' H' h=>?_) (fun h3 nx hx=>?_) (fun h3 nx hx=>?_)
  ·obtain ⟨sg,g0,g1,g2,rfl,rfl⟩:=h;have XU:sg.length <= sizeLine:=by rw [sizeLine_eq];omega
   lcg_off;refine ⟨rfl,?_⟩;lcg_off;refine nJ (by omega) (by omega) (fun ps Hs ns BU ss hs hlen BR=>?_);lcg_off;refine Bx (xs:=ns.map V.int) (fun i ys H'=>Same Hs H'/\∃ cs:List Nat,ys = (cs.map fun c=>V.str ⟨#[c]⟩)/\cs.length = i/\cs.all dU = true) (by rw [List.length_map,hlen,sizeLine_eq];omega) ⟨Same.refl _,[],rfl,rfl,rfl⟩ (fun i ys H' h=>⟨SqL.of (h.1 _ _ hs),by obtain ⟨_,cs,rfl,h2,_⟩:=h;rw [List.length_map,h2]⟩) (fun i v ys H' hv h=>?_) (fun ys p H' H1 h hp sp hl=>?_)
   ·obtain ⟨sH,cs,rfl,h2,h3⟩:=h;rw [List.getElem?_map] at hv;obtain ⟨x,hx,rfl⟩:=Option.map_eq_some_iff.mp hv;lcg_off;obtain ⟨ch,me,uR⟩:=vt (xs:=sg.cps.toList) (i:=x % sg.length) (Int.emod_nonneg _ (by omega)) (by rw [<- len_list];exact Int.emod_lt_of_pos _ (by omega));refine rH XU me ?_;exact ⟨sH,cs ++ [ch],by rw [List.map_append];rfl,by rw [List.length_append,h2];rfl,by rw [List.all_append,h3,List.all_cons,List.all_nil,List.all_eq_true.mp g2 ch uR];rfl⟩
   ·obtain ⟨sH,cs,rfl,h2,h3⟩:=h;rw [List.length_map] at h2;lcg_off;refine ⟨_,p,cs.map fun c=>(⟨#[c]⟩:Str),rfl,rfl,SqL.of (by rw [hl,List.map_map];rfl),?_,?_⟩
    ·rw [C4,List.length_map,show (Str.ofString "").length = 0 from rfl];omega
    ·rw [join_one];refine q _ _ ?_ h3 (by lcg_sub);have e:(⟨cs.toArray⟩:Str).length = cs.length:=by rw [len_list]
     rw [e];omega
  ·lcg_off;exact hx _ _ ⟨_,by decide +kernel,by decide +kernel,by unfold nr;decide +kernel,rfl,rfl⟩
  ·lcg_off;exact hx _ _ ⟨_,by omega,by omega,hsg,rfl,rfl⟩
theorem eT {b:Bool} (h1:0 <= m) (h2:m <= 1000) (q:∀ (z:Str) H',(z.length:Int) = m->nr z->Same H H'->Q (.str z) H'):tP [.int n,.int m,.bl b] H Q E:=⟨n,m,b,rfl,h1,h2,q⟩
end
section
theorem xC {T U:TS} {D:Ends} (R:St->Hp->Prop) (h1:∀ Fo:St->Hp->Prop,(∀ σ' H',R σ' H'->Fo σ' H')->T { nx:=Fo,rt:=D.rt,bk:=D.bk,ct:=D.ct } σ H) (h2:∀ σ' H',R σ' H'->U D σ' H'):zT T U D σ H:=h1 _ h2
theorem zm (ws:List Str):(ws.map V.str).all kq = true:=by
 rw [List.all_map];exact List.all_eq_true.mpr fun _ _=>rfl
theorem GR {ws:List Str} {neg:Bool} (h1:SqL K H p (ws.map V.str)) (q:∀ b,Q (.bl b) H):Xu K neg (.str x) (.ref p) H Q:=⟨p,_,rfl,.inl h1,rfl,zm ws,q _⟩
theorem HV (z:Str) (h0:0 <= j) (h:j <= z.length):((Txt.slice z none (some j)).length:Int) = j:=by
 obtain ⟨k,rfl⟩:∃ k:Nat,j = k:=⟨j.toNat,by omega⟩;rw [len_list,nM,List.length_take,<- len_list];omega
theorem len_from (z:Str) (h0:0 <= j) (h:j <= z.length):((Txt.slice z (some j) none).length:Int) = z.length - j:=by
 obtain ⟨k,rfl⟩:∃ k:Nat,j = k:=⟨j.toNat,by omega⟩;rw [len_list,nN,List.length_drop,<- len_list];omega
theorem HP (h0:0 <= j) (h:nr z):nr (Txt.slice z none (some j)):=by
 obtain ⟨k,rfl⟩:∃ k:Nat,j = k:=⟨j.toNat,by omega⟩;unfold nr at *;rw [nM];exact List.all_eq_true.mpr fun x hx=>List.all_eq_true.mp h x (List.mem_of_mem_take hx)
theorem uv (h0:0 <= j) (h:nr z):nr (Txt.slice z (some j) none):=by
 obtain ⟨k,rfl⟩:∃ k:Nat,j = k:=⟨j.toNat,by omega⟩;unfold nr at *;rw [nN];exact List.all_eq_true.mpr fun x hx=>List.all_eq_true.mp h x (List.mem_of_mem_drop hx)
theorem iV {y:Str} (hx:x.length + y.length <= 10000) (ox:nr x) (oy:nr y) (h:∀ z:Str,z.length = x.length + y.length->nr z->Q (.str z) H):ij K (.str x) (.str y) H Q:=aS (by rw [sizeLine_eq];omega) (h _ (la x y) (by unfold nr at *;rw [app_list,List.all_append,ox,oy];rfl))
def yU (w:Str):Prop:=1 <= w.length/\w.length <= 20/\nr w
def xy:Sp:=fun vs H Q _=>∃ n:Int,vs = [.int n]/\0 <= n/\∀ (z:Str) H',yU z->Same H H'->Q (.str z) H'
theorem eU:ao ["_law_x","_law_way","_law_more"] ["_law_x"] (aa cm):=⟨rfl,rfl,rfl,by decide +kernel,rfl,by decide +kernel,by decide +kernel⟩
theorem ou (T:Txt K mg) (N:Fn K mg "_law_key_by" cm ["_law_x"] f fd):FnOk P w K mg base cB (3) f fd ["_law_x"] (xy):=by
 obtain ⟨_,_,bu⟩:=T.f__law_text_by;have cn:=gU (P:=P) (w:=w) (base:=base) T bu;refine N.fu.okB eU (fun vs H Q E h=>?_) (fun bA A outer s H vs Q E hr h=>?_)
 ·obtain ⟨n,rfl,_⟩:=h
  rfl
 ·obtain ⟨n,rfl,hn,q⟩:=h;have a0:=Int.emod_nonneg (n / 6) (show (20:Int) ≠ 0 by decide);have a1:=Int.emod_lt_of_pos (n / 6) (show (0:Int) < 20 by decide);have b0:=Int.emod_nonneg (n / 6) (show (4:Int) ≠ 0 by decide);have b1:=Int.emod_lt_of_pos (n / 6) (show (0:Int) < 4 by decide);refine ⟨_,(af (ak (i:=1) eU.nd rfl (by first | exact Or.inl rfl | exact Or.inr rfl) (ar aN (bv 0) b_int))
  (af (ak (i:=2) eU.nd rfl (by first | exact Or.inl rfl | exact Or.inr rfl) (ar aZ (bv 0) b_int))
  (af (aH (aB wH (bv 1) b_int (aw _))
   (ah (ai (aI au (fj (ag b_str (ag b_str (ag b_str (ag b_str (ag b_str (ag b_str (ag b_str (ag b_str ae rfl) rfl) rfl) rfl) rfl) rfl) rfl) rfl)) (ar aN (bv 2) b_int) (fun _ _=>rfl))))
   av)
  (af (aH (aB (cZ (aD hr)) (bv 1) b_int (aw _))
   (ah (ai (bT bu cn (hr.mono (by first | decide | omega)) (ag (ar aZ (bv 2) b_int) (ag (ar aG b_int (ar aN (bv 2) b_int)) (ag hW ae rfl) rfl) rfl))))
   av)
  (af (aH (aB (cZ (aD hr)) (bv 1) b_int (aw _))
   (ah (ai (bT bu cn (hr.mono (by first | decide | omega)) (ag (ar aZ (bv 2) b_int) (ag b_int (ag (gi (cZ (aD hr)) (ar aN (bv 2) b_int) b_int (aw _)) ae rfl) rfl) rfl))))
   av)
  (ah (ai (bT bu cn (hr.mono (by first | decide | omega)) (ag (ar aZ (bv 2) b_int) (ag (ar aG b_int (ar aN (bv 2) b_int)) (ag (gi (cZ (aD hr)) (bv 1) b_int (aw _)) ae rfl) rfl) rfl))))))))),?_⟩
  kas_types;lcg_off;refine aF (fun h1=>?_) (fun h1=>?_)
  ·lcg_off
   kaf_suf
   intro v hv;obtain ⟨z,rfl,hz⟩:∃ z:Str,v = .str z/\yU z:=by
    simp only [List.mem_cons,List.not_mem_nil,or_false] at hv
    rcases hv with rfl | rfl | rfl | rfl | rfl | rfl | rfl | rfl <;> exact ⟨_,rfl,by decide +kernel,by decide +kernel,by unfold nr;decide +kernel⟩
   clear hv;exact q _ _ hz (by lcg_sub)
  ·lcg_off;refine aF (fun h2=>?_) (fun h2=>?_)
   ·lcg_off;refine eT (by omega) (by omega) (fun z H' hz oz sz=>?_);exact q _ _ ⟨by omega,by omega,oz⟩ sz
   ·lcg_off;refine aF (fun h3=>?_) (fun h3=>?_)
    ·lcg_off;refine eT (by omega) (by omega) (fun z H' hz oz sz=>?_);exact q _ _ ⟨by omega,by omega,oz⟩ sz
    ·lcg_off;refine eT (by omega) (by omega) (fun z H' hz oz sz=>?_);exact q _ _ ⟨by omega,by omega,oz⟩ sz
theorem y8 (hn:0 <= n) (q:∀ (z:Str) H',yU z->Same H H'->Q (.str z) H'):xy [.int n] H Q E:=⟨n,rfl,hn,q⟩
def okVal (v:V):Prop:=v = .non \/ ∃ z:Str,v = .str z/\z.length <= 40/\nr z
def qo:Sp:=fun vs H Q _=>∃ n:Int,vs = [.int n]/\0 <= n/\∀ v H',okVal v->Same H H'->Q v H'
theorem dN:ao ["_law_x","_law_way","_law_more"] ["_law_x"] (aa bw):=⟨rfl,rfl,rfl,by decide +kernel,rfl,by decide +kernel,by decide +kernel⟩
theorem lz (T:Txt K mg) (N:Fn K mg "_law_value_by" bw ["_law_x"] f fd):FnOk P w K mg base cB (3) f fd ["_law_x"] (qo):=by
 obtain ⟨_,_,bu⟩:=T.f__law_text_by;have cn:=gU (P:=P) (w:=w) (base:=base) T bu;refine N.fu.okB dN (fun vs H Q E h=>?_) (fun bA A outer s H vs Q E hr h=>?_)
 ·obtain ⟨n,rfl,_⟩:=h
  rfl
 ·obtain ⟨n,rfl,hn,q⟩:=h;have a0:=Int.emod_nonneg (n / 5) (show (41:Int) ≠ 0 by decide);have a1:=Int.emod_lt_of_pos (n / 5) (show (0:Int) < 41 by decide);have b0:=Int.emod_nonneg (n / 5) (show (5:Int) ≠ 0 by decide);have b1:=Int.emod_lt_of_pos (n / 5) (show (0:Int) < 5 by decide);refine ⟨_,(af (ak (i:=1) dN.nd rfl (by first | exact Or.inl rfl | exact Or.inr rfl) (ar aN (bv 0) b_int))
  (af (ak (i:=2) dN.nd rfl (by first | exact Or.inl rfl | exact Or.inr rfl) (ar aZ (bv 0) b_int))
  (af (aH (aB (cZ (aD hr)) (bv 1) b_int (aw _))
   (ah (ai cD))
   av)
  (af (aH (aB (cZ (aD hr)) (bv 1) b_int (aw _))
   (ah (ai (aI au (fj (ag b_str (ag b_str (ag b_str (ag b_str (ag b_str (ag b_str ae rfl) rfl) rfl) rfl) rfl) rfl)) (ar aN (bv 2) b_int) (fun _ _=>rfl))))
   av)
  (af (aH (aB (cZ (aD hr)) (bv 1) b_int (aw _))
   (ah (ai (bT bu cn (hr.mono (by first | decide | omega)) (ag (ar aZ (bv 2) b_int) (ag (ar aN (bv 2) b_int) (ag hW ae rfl) rfl) rfl))))
   av)
  (ah (ai (bT bu cn (hr.mono (by first | decide | omega)) (ag (ar aZ (bv 2) b_int) (ag (ar aN (bv 2) b_int) (ag hW ae rfl) rfl) rfl))))))))),?_⟩
  kas_types;lcg_off;refine aF (fun h1=>?_) (fun h1=>?_)
  ·lcg_off;exact q _ _ (.inl rfl) (Same.refl _)
  ·lcg_off;refine aF (fun h1=>?_) (fun h1=>?_)
   ·lcg_off
    kaf_suf
    intro v hv;obtain ⟨z,rfl,hz⟩:∃ z:Str,v = .str z/\z.length <= 40/\nr z:=by
     simp only [List.mem_cons,List.not_mem_nil,or_false] at hv
     rcases hv with rfl | rfl | rfl | rfl | rfl | rfl <;> exact ⟨_,rfl,by decide +kernel,by unfold nr;decide +kernel⟩
    clear hv;exact q _ _ (.inr ⟨z,rfl,hz⟩) (by lcg_sub)
   ·lcg_off;refine aF (fun h2=>?_) (fun h2=>?_)
    ·lcg_off;refine eT (by omega) (by omega) (fun z H' hz oz sz=>?_);exact q _ _ (.inr ⟨z,rfl,by omega,oz⟩) sz
    ·lcg_off;refine eT (by omega) (by omega) (fun z H' hz oz sz=>?_);exact q _ _ (.inr ⟨z,rfl,by omega,oz⟩) sz
theorem tm (hn:0 <= n) (q:∀ v H',okVal v->Same H H'->Q v H'):qo [.int n] H Q E:=⟨n,rfl,hn,q⟩
def qp:Sp:=fun vs H Q _=>∃ n:Int,vs = [.int n]/\0 <= n/\∀ (m:Int) H',1 <= m->m < 10 ^ 9->Same H H'->Q (.int m) H'
theorem fW:ao ["_law_x","_law_way"] ["_law_x"] (aa bx):=⟨rfl,rfl,rfl,by decide +kernel,rfl,by decide +kernel,by decide +kernel⟩
theorem lC (T:Txt K mg) (N:Fn K mg "_law_stamp_by" bx ["_law_x"] f fd):FnOk P w K mg base cB (1) f fd ["_law_x"] (qp):=by
 refine N.fu.okB fW (fun vs H Q E h=>?_) (fun bA A outer s H vs Q E hr h=>?_)
 ·obtain ⟨n,rfl,_⟩:=h
  rfl
 ·obtain ⟨n,rfl,hn,q⟩:=h;have a0:=Int.emod_nonneg n (show (6:Int) ≠ 0 by decide);have a1:=Int.emod_lt_of_pos n (show (0:Int) < 6 by decide);refine ⟨_,(af (ak (i:=1) fW.nd rfl (by first | exact Or.inl rfl | exact Or.inr rfl) (ar aN (bv 0) b_int))
  (af (aH (aB wH (bv 1) b_int (aw _))
   (ah (ai (ar aG b_int (ar aN (ar aZ (bv 0) b_int) (aI au (fj (ag b_int (ag b_int (ag b_int (ag b_int ae rfl) rfl) rfl) rfl)) (bv 1) (fun _ _=>rfl))))))
   av)
  (ah (ai (aI au (fj (ag (ar aG b_int (ar aN (ar aZ (bv 0) b_int) b_int)) (ag (ar jG b_int (ar aN (ar aZ (bv 0) b_int) b_int)) ae rfl) rfl)) (ar jG (bv 1) b_int) (fun _ _=>rfl)))))),?_⟩
  kas_types;lcg_off;refine aF (fun h1=>?_) (fun h1=>?_)
  ·lcg_off;refine nj (SqL.of (by assumption)) (by omega) (by simp;omega) (fun v hv=>?_);obtain ⟨k,rfl,k0,k1⟩:∃ k:Int,v = .int k/\0 < k/\k <= 40:=by
    simp only [List.mem_cons,List.not_mem_nil,or_false] at hv
    rcases hv with rfl | rfl | rfl | rfl <;> exact ⟨_,rfl,by decide,by decide⟩
   clear hv;lcg_off;have c0:=Int.emod_nonneg (n / 6) (show k ≠ 0 by omega);have c1:=Int.emod_lt_of_pos (n / 6) (show (0:Int) < k by omega);exact q _ _ (by omega) (by omega) (by lcg_sub)
  ·lcg_off;refine nj (SqL.of (by assumption)) (by omega) (by simp;omega) (fun v hv=>?_);have c0:=Int.emod_nonneg (n / 6) (show (999999999:Int) ≠ 0 by decide);have c1:=Int.emod_lt_of_pos (n / 6) (show (0:Int) < 999999999 by decide);have d0:=Int.emod_nonneg (n / 6) (show (3:Int) ≠ 0 by decide);have d1:=Int.emod_lt_of_pos (n / 6) (show (0:Int) < 3 by decide);obtain ⟨k,rfl,k0,k1⟩:∃ k:Int,v = .int k/\1 <= k/\k < 10 ^ 9:=by
    simp only [List.mem_cons,List.not_mem_nil,or_false] at hv
    rcases hv with rfl | rfl
    ·exact ⟨_,rfl,by omega,by omega⟩
    ·exact ⟨_,rfl,by omega,by omega⟩
   clear hv;exact q _ _ k0 k1 (by lcg_sub)
theorem tO (hn:0 <= n) (q:∀ (m:Int) H',1 <= m->m < 10 ^ 9->Same H H'->Q (.int m) H'):qp [.int n] H Q E:=⟨n,rfl,hn,q⟩
def An:Sp:=fun vs H Q _=>∃ (w:Str) (n:Int),vs = [.str w,.int n]/\yU w/\0 <= n/\∀ (z:Str),yU z->Q (.str z) H
theorem eM:ao ["_law_named","_law_x","_law_way","_law_at","_law_sign"] ["_law_named","_law_x"] (aa cR):=⟨rfl,rfl,rfl,by decide +kernel,rfl,by decide +kernel,by decide +kernel⟩
theorem rV (T:Txt K mg) (N:Fn K mg "_law_near" cR ["_law_named","_law_x"] f fd):FnOk P w K mg base cB (1) f fd ["_law_named","_law_x"] (An):=by
 refine N.fu.okB eM (fun vs H Q E h=>?_) (fun bA A outer s H vs Q E hr h=>?_)
 ·obtain ⟨w,n,rfl,_⟩:=h
  rfl
 ·obtain ⟨w,n,rfl,hw,hn,q⟩:=h;obtain ⟨w1,w2,w3⟩:=hw;have a0:=Int.emod_nonneg (n / 5) (show (w.length:Int) ≠ 0 by omega);have a1:=Int.emod_lt_of_pos (n / 5) (show (0:Int) < w.length by omega);have XU:w.length <= sizeLine:=by rw [sizeLine_eq];omega
  refine ⟨_,(af (ak (i:=2) eM.nd rfl (by first | exact Or.inl rfl | exact Or.inr rfl) (ar aN (bv 1) b_int))
  (af (ak (i:=3) eM.nd rfl (by first | exact Or.inl rfl | exact Or.inr rfl) (ar aN (ar aZ (bv 1) b_int) (dH bO T.b_len (by kernel_rfl) (ag (bv 0) ae rfl))))
  (af (ak (i:=4) eM.nd rfl (by first | exact Or.inl rfl | exact Or.inr rfl) (aI au b_str (ar aN (ar aZ (bv 1) b_int) b_int) (fun _ _=>rfl)))
  (af (aH (gM (jQ (aB (cZ (aD hr)) (bv 2) b_int (aw _)) (gK (aB wH (dH bO T.b_len (by kernel_rfl) (ag (bv 0) ae rfl)) b_int (aw _)))))
   (ah (ai (ar aG (ar aG (bS dI (bv 0) cf (bD (bv 3))) (bv 4)) (bS dI (bv 0) (bD (bv 3)) cf))))
   av)
  (af (aH (gM (jQ (aB (cZ (aD hr)) (bv 2) b_int (aw _)) (gK (aB uh (dH bO T.b_len (by kernel_rfl) (ag (bv 0) ae rfl)) b_int (aw _)))))
   (ah (ai (ar aG (bS dI (bv 0) cf (bD (bv 3))) (bS dI (bv 0) (bD (ar aG (bv 3) b_int)) cf))))
   av)
  (af (aH (gM (jQ (aB (cZ (aD hr)) (bv 2) b_int (aw _)) (gK (aB wH (dH bO T.b_len (by kernel_rfl) (ag (bv 0) ae rfl)) b_int (aw _)))))
   (ah (ai (ar aG (bv 0) (bv 4))))
   av)
  (ah (ai (ar aG (ar aG (bS dI (bv 0) cf (bD (bv 3))) (bv 4)) (bS dI (bv 0) (bD (ar aG (bv 3) b_int)) cf)))))))))),?_⟩
  kas_types;lcg_off;generalize n / 5 % (w.length:Int) = k at *;have h5:(Str.ofString "ab~ c").length <= sizeLine:=by rw [sizeLine_eq];decide +kernel
  obtain ⟨ch,me,uR⟩:=vt (xs:=(Str.ofString "ab~ c").cps.toList) (i:=n / 100 % 5) (Int.emod_nonneg _ (by decide)) (by rw [<- len_list];exact Int.emod_lt_of_pos _ (by decide));refine rH h5 me ?_;have c1:(⟨#[ch]⟩:Str).length = 1:=rfl;have occ:nr (⟨#[ch]⟩:Str):=by
   have:(Str.ofString "ab~ c").cps.toList.all dU = true:=by decide +kernel
   unfold nr;show ([ch]:List Nat).all dU = true;rw [List.all_cons,List.all_nil,List.all_eq_true.mp this ch uR]
   rfl
  generalize (⟨#[ch]⟩:Str) = cc at *;have lt:=HV w a0 (by omega);have lf:=len_from w a0 (by omega);have lg:=len_from w (j:=k + 1) (by omega) (by omega);have ot:=HP a0 w3;have of':=uv a0 w3;have og:=uv (j:=k + 1) (by omega) w3;generalize n % 5 = r5 at *;have last:∀ {D:Ends},D.rt = Q->CV (yn (ij K) (yn (ij K) (JI (yH K) (pM 0) jZ (tJ (pM 3))) (pM 4)) (JI (yH K) (pM 0) (tJ (yn (ij K) (pM 3) (tC (V.int 1)))) jZ)) D [some (.str w),some (.int n),some (.int r5),some (.int k),some (.str cc)] H:=fun {D} hD=>by
   lcg_off;refine lx (by omega) ?_;lcg_off;refine iV (by omega) (by assumption) (by assumption) (fun z1 zc oz1=>?_);lcg_off;refine lx (by omega) ?_;lcg_off;refine iV (by omega) (by assumption) (by assumption) (fun z2 Jm PH=>?_);rw [hD];exact q _ ⟨by omega,by omega,by assumption⟩
  lcg_off;refine aF (fun h1=>?_) (fun h1=>?_)
  ·subst h1;lcg_off;refine aF (fun h2=>?_) (fun h2=>?_)
   ·lcg_off;refine lx (by omega) ?_;lcg_off;refine iV (by omega) (by assumption) (by assumption) (fun z1 zc oz1=>?_);lcg_off;refine lx (by omega) ?_;lcg_off;refine iV (by omega) (by assumption) (by assumption) (fun z2 Jm PH=>?_);exact q _ ⟨by omega,by omega,by assumption⟩
   ·lcg_off;rw [if_neg (by decide)];rw [if_neg (by decide)];lcg_off;rw [if_neg (by decide)];rw [if_neg (by decide)];exact last rfl
  ·rw [if_neg (by decide)];lcg_off;refine aF (fun h2=>?_) (fun h2=>?_)
   ·subst h2;lcg_off;refine aF (fun h3=>?_) (fun h3=>?_)
    ·lcg_off;refine lx (by omega) ?_;lcg_off;refine lx (by omega) ?_;lcg_off;refine iV (by omega) (by assumption) (by assumption) (fun z2 Jm PH=>?_);exact q _ ⟨by omega,by omega,by assumption⟩
    ·lcg_off;rw [if_neg (by decide)];rw [if_neg (by decide)];exact last rfl
   ·rw [if_neg (by decide)];lcg_off;refine aF (fun h3=>?_) (fun h3=>?_)
    ·lcg_off;refine aF (fun h4=>?_) (fun h4=>?_)
     ·lcg_off;refine iV (by omega) (by assumption) (by assumption) (fun z2 Jm PH=>?_);exact q _ ⟨by omega,by omega,by assumption⟩
     ·exact last rfl
    ·rw [if_neg (by decide)];exact last rfl
theorem Bp {w:Str} (hw:yU w) (hn:0 <= n) (q:∀ (z:Str),yU z->Q (.str z) H):An [.str w,.int n] H Q E:=⟨w,n,rfl,hw,hn,q⟩
end
section
abbrev Ent:=Str × Int × Option Str
def oD:Option Str->D
 | none=>.non
 | some z=>.str z
def aK (e:Ent):D:=.tup [.str e.1,.int e.2.1,oD e.2.2]
def pF (e:Ent):RK:=(e.1,-e.2.1)
def PL:Option Str->Prop
 | none=>True
 | some z=>z.length <= 40/\nr z
def wG (e:Ent):Prop:=yU e.1/\(1 <= e.2.1/\e.2.1 < 10 ^ 9)/\PL e.2.2
theorem okVal.rep (h:okVal v) (H:Hp):∃ o,Rep H (oD o) v/\PL o:=by
 rcases h with rfl | ⟨z,rfl,hz⟩
 ·exact ⟨none,Rep.non',trivial⟩
 ·exact ⟨some z,Rep.str',hz⟩
theorem fh (h:Rep H (aK e) v):∃ a x,v = .ref a/\H a = some (.tup [.str e.1,.int e.2.1,x])/\Rep H (oD e.2.2) x:=by
 unfold aK at h;simp only [Rep,Reps] at h;obtain ⟨a,vs,rfl,ha,v1,r1,rfl,rfl,v2,r2,rfl,rfl,v3,r3,rfl,h3,rfl⟩:=h;exact ⟨a,v3,rfl,ha,h3⟩
theorem rX {x:V} (ha:H a = some (.tup [.str e.1,.int e.2.1,x])) (hx:Rep H (oD e.2.2) x):Rep H (aK e) (.ref a):=by
 unfold aK;simp only [Rep,Reps];exact ⟨a,_,rfl,ha,_,_,rfl,rfl,_,_,rfl,rfl,_,_,rfl,hx,rfl⟩
def HQ (kv:List Key × V):Prop:=∃ (w:Str) (s:Int),kv.1 = [.inr w,.inl s]/\(yU w/\1 <= s/\s < 10 ^ 9)/\okVal kv.2
theorem Dw {az:List (List Key × V)} {w:Str} {s:Int} (h:∀ kv ∈ az,HQ kv) (hs:yU w/\1 <= s/\s < 10 ^ 9) (hv:okVal v):∀ kv ∈ putK az [.inr w,.inl s] v,HQ kv:=by
 unfold putK
 split
 ·intro kv hk;obtain ⟨XI,h0,rfl⟩:=List.mem_map.mp hk
  split
  ·obtain ⟨w',s',e,z,_⟩:=h XI h0;exact ⟨w',s',e,z,hv⟩
  ·exact h XI h0
 ·intro kv hk
  rcases List.mem_append.mp hk with h1 | h1
  ·exact h kv h1
  ·rw [List.mem_singleton.mp h1];exact ⟨w,s,rfl,hs,hv⟩
theorem Dy [DecidableEq κ] {az:List (κ × V)} {k:κ} (h:(az.map (·.1)).Nodup):((putK az k v).map (·.1)).Nodup:=by
 unfold putK
 split
 ·rw [List.map_map];have e:((fun x:κ × V=>x.1) ∘ fun kv=>if kv.1 = k then (kv.1,v) else kv) = fun x=>x.1:=by
   funext kv
   show (if kv.1 = k then (kv.1,v) else kv).1 = kv.1
   split <;> rfl
  rw [e];exact h
 ·next hn =>
  rw [List.map_append,List.nodup_append];refine ⟨h,List.pairwise_singleton _ _,fun x hx y hy z=>hn ?_⟩;obtain ⟨kv,h1,rfl⟩:=List.mem_map.mp hx;have KU:y = k:=by simpa using hy
  exact List.any_eq_true.mpr ⟨kv,h1,decide_eq_true (z.trans KU)⟩
theorem zL {κ:Type} [DecidableEq κ]:∀ {az:List (κ × V)} {i:Nat} {k:κ} {v:V},(az.map (·.1)).Nodup->az[i]? = some (k,v)->jw az k = some v
 | [],i,k,v,_,h=>by simp at h
 | kv :: az,0,k,v,nd,h=>by
  simp at h;subst h;unfold jw;rw [List.find?_cons_of_pos (by simp)]
  rfl
 | kv :: az,i + 1,k,v,nd,h=>by
  rw [List.map_cons,List.nodup_cons] at nd;have h':az[i]? = some (k,v):=by simpa using h
  have ne:kv.1 ≠ k:=fun z=>nd.1 (by rw [z];exact List.mem_map.mpr ⟨(k,v),List.mem_of_getElem? h',rfl⟩)
  have:=zL nd.2 h';unfold jw at this ⊢;rw [List.find?_cons_of_neg (by simpa using ne)];exact this
theorem Reps.snoc {H:Hp}:∀ {ds:List D} {vs:List V} {d:D} {v:V},Reps H ds vs->Rep H d v->Reps H (ds ++ [d]) (vs ++ [v])
 | [],vs,d,v,h,h'=>by
  simp only [Reps] at h;subst h;simp only [List.nil_append,Reps];exact ⟨v,[],rfl,h',rfl⟩
 | e :: ds,vs,d,v,h,h'=>by
  simp only [Reps] at h;obtain ⟨u,r,rfl,h1,h2⟩:=h;simp only [List.cons_append,Reps];exact ⟨u,r ++ [v],rfl,h1,Reps.snoc h2 h'⟩
theorem Ry {o : Obj} {az : List (List Key × V)} {ix : List Nat} {te : TE} (W : Nat -> List V -> Hp -> Prop) (hz : az.length <= sizeLine) (h0 : W 0 [] H) (hl : ∀ i ys H', W i ys H' -> H' a = some (.frz o (.dT az)) /\ ys.length = i)
    (hE:∀ i k v b ys H',az[i]? = some (k,v)->H' b = some (.tup (k.map kV))->W i ys H'->te (some (.ref b) :: pick ix σ) H' fun y H5=>W (i + 1) (ys ++ [y]) H5)
    (hQ:∀ ys p H' H1,W az.length ys H'->H' p = none->Same H' H1->H1 p = some (.lst ys)->Q (.ref p) H1):CB (Nw a o az) ix σ tH te Q H:=by
 refine ⟨fun i m ys H2=>m = az.length - i/\i <= az.length/\W i ys H2,⟨az.length,by simp,Nat.zero_le _,h0⟩,?_⟩
 rintro i m ys H2 ⟨rfl,hi,w⟩;obtain ⟨q,e⟩:=hl i ys H2 w
 by_cases eQ:i < az.length
 ·refine .inr ⟨⟨q,eQ⟩,by omega,fun x H3 y=>?_⟩
  obtain ⟨rfl,b,k,v,y,rfl,hb⟩:=y;show te _ _ _;rw [show (fun y H5=>∃ m',m' < az.length - i/\m' = az.length - (i + 1)/\i + 1 <= az.length/\W (i + 1) (ys ++ [y]) H5) = fun y H5=>W (i + 1) (ys ++ [y]) H5 from ?_]
  ·exact hE i k v b ys _ y hb w
  ·funext y H5
   apply propext;exact ⟨fun ⟨m',_,_,_,h⟩=>h,fun h=>⟨az.length - (i + 1),by omega,rfl,eQ,h⟩⟩
 ·have:i = az.length:=by omega
  subst this;exact .inl ⟨⟨q,Nat.le_refl _⟩,fun D hD=>hQ ys D H2 _ w hD (bh hD) aC⟩
theorem qB {H:Hp}:∀ (ns:List Str),Reps H (ns.map L2.D.str) (ns.map V.str)
 | []=>by simp only [List.map_nil,Reps]
 | n :: ns=>by simp only [List.map_cons,Reps,Rep];exact ⟨_,_,rfl,rfl,qB ns⟩
theorem vh:∀ {ns:List Str},L2.D.deps (ns.map L2.D.str) = 0
 | []=>by simp [D.deps]
 | n :: ns=>by
  have:=vh (ns:=ns);simp only [List.map_cons,D.deps,D.dep];omega
theorem D4 {ws:List Str} (h:H p = some (.lst (ws.map V.str))) (h':H p' = some (.lst [])) (q:Q (.bl (!decide (ws = []))) H):pO (.ref p) (.ref p') H Q:=by
 refine ⟨.lst (ws.map L2.D.str),.lst [],by simp only [Rep];exact ⟨p,_,rfl,h,qB ws⟩,by simp only [Rep];exact ⟨p',[],rfl,h',by simp only [Reps]⟩,by simp only [D.dep,vh];omega,by simp [D.dep,D.deps],?_⟩;have e:aE (.lst (ws.map L2.D.str)) (.lst []) = decide (ws = []):=by
  cases ws with
  | nil=>simp [aE,d8]
  | cons e r=>simp [aE,d8]
 rw [e];exact q
theorem Dx [DecidableEq κ] {az:List (κ × V)} {k:κ}:putK az k v ≠ []:=by
 unfold putK
 split
 ·next h =>
  intro z;rw [List.map_eq_nil_iff] at z;rw [z] at h;simp at h
 ·simp
def tU:Sp:=fun vs H Q _=>∃ c:Int,vs = [.int c]/\∀ m:Int,1 <= m->m <= 199->Q (.int m) H
theorem mJ:ao ["_law_cell"] ["_law_cell"] (aa bM):=⟨rfl,rfl,rfl,by decide +kernel,rfl,by decide +kernel,by decide +kernel⟩
theorem mP (T:Txt K mg) (N:Fn K mg "_law_many_by" bM ["_law_cell"] f fd):FnOk P w K mg base cB (1) f fd ["_law_cell"] (tU):=by
 refine N.fu.okB mJ (fun vs H Q E h=>?_) (fun bA A outer s H vs Q E hr h=>?_)
 ·obtain ⟨c,rfl,_⟩:=h
  rfl
 ·obtain ⟨c,rfl,q⟩:=h;have a0:=Int.emod_nonneg (c / 12) (show (140:Int) ≠ 0 by decide);have a1:=Int.emod_lt_of_pos (c / 12) (show (0:Int) < 140 by decide);have b0:=Int.emod_nonneg (c / 12) (show (14:Int) ≠ 0 by decide);have b1:=Int.emod_lt_of_pos (c / 12) (show (0:Int) < 14 by decide);refine ⟨_,(af (aH (aB (cZ (aD hr)) (ar aN (bv 0) b_int) b_int (aw _))
   (ah (ai (ar aG b_int (ar aN (ar aZ (bv 0) b_int) b_int))))
   av)
  (ah (ai (ar aG b_int (ar aN (ar aZ (bv 0) b_int) b_int))))),?_⟩
  kas_types;lcg_off;refine aF (fun h1=>?_) (fun h1=>?_)
  ·lcg_off;exact q _ (by omega) (by omega)
  ·lcg_off;exact q _ (by omega) (by omega)
theorem wL (q:∀ m:Int,1 <= m->m <= 199->Q (.int m) H):tU [.int c] H Q E:=⟨c,rfl,q⟩
def lV (K:W.Frag):Sp:=fun vs H Q _=>∃ c m:Int,vs = [.int c,.int m]/\1 <= m/\m <= 199/\∀ p H' (xs:List V) (es:List Ent),H p = none->Same H H'->H' p = some (.lst xs)->Reps H' (es.map aK) xs->(es.map pF).Nodup->es.length <= 199->1 <= es.length->(∀ e ∈ es,wG e)->Q (.ref p) H'
theorem aL:ao ["_law_cell","_law_many","_law_xs","_law_found","_law_keys","_law_k","_law_named"] ["_law_cell","_law_many"] (aa aP):=⟨rfl,rfl,rfl,by decide +kernel,rfl,by decide +kernel,by decide +kernel⟩
theorem jJ (T:Txt K mg) (N:Fn K mg "_law_entries_by" aP ["_law_cell","_law_many"] f fd):FnOk P w K mg base cB (4) f fd ["_law_cell","_law_many"] (lV K):=by
 obtain ⟨_,_,df⟩:=T.f__law_stream;have fS:=iA (P:=P) (w:=w) (base:=base) T df;obtain ⟨_,_,jv⟩:=T.f__law_key_by;have qh:=ou (P:=P) (w:=w) (base:=base) T jv;obtain ⟨_,_,gX⟩:=T.f__law_value_by;have mX:=lz (P:=P) (w:=w) (base:=base) T gX;obtain ⟨_,_,mD⟩:=T.f__law_near;have vJ:=rV (P:=P) (w:=w) (base:=base) T mD;obtain ⟨_,_,gY⟩:=T.f__law_stamp_by;have mY:=lC (P:=P) (w:=w) (base:=base) T gY;refine N.fu.okB aL (fun vs H Q E h=>?_) (fun bA A outer s H vs Q E hr h=>?_)
 ·obtain ⟨c,m,rfl,_⟩:=h
  rfl
 ·obtain ⟨c,m,rfl,h0,hm,q⟩:=h;refine ⟨_,(af (ak (i:=2) aL.nd rfl (by first | exact Or.inl rfl | exact Or.inr rfl) (bT df fS (hr.mono (by first | decide | omega)) (ag (bv 0) (ag (ar dJ b_int (bv 1)) ae rfl) rfl)))
  (af (ak (i:=3) aL.nd rfl (by first | exact Or.inl rfl | exact Or.inr rfl) EH)
  (af (ak (i:=4) aL.nd rfl (by first | exact Or.inl rfl | exact Or.inr rfl) (fj ae))
  (af (eF PassesOwn.never rfl (ya T.b_range (ag (bv 1) ae rfl)) (cJ (i:=5) aL.nd rfl (by first | exact Or.inl rfl | exact Or.inr rfl))
   (af (ak (i:=6) aL.nd rfl (by first | exact Or.inl rfl | exact Or.inr rfl) (bT jv qh (hr.mono (by first | decide | omega)) (ag (aI au (bv 2) (ar dJ b_int (bv 5)) (fun _ _=>rfl)) ae rfl)))
  (af (aH (gM (jQ (aB (d9 (aD hr)) (bv 4) (fj ae) (aw _)) (gK (aB uh (ar aN (aI au (bv 2) (ar aG (ar dJ b_int (bv 5)) b_int) (fun _ _=>rfl)) b_int) b_int (aw _)))))
   (af (ak (i:=6) aL.nd rfl (by first | exact Or.inl rfl | exact Or.inr rfl) (aI au (bv 4) (ar aN (ar aZ (aI au (bv 2) (ar aG (ar dJ b_int (bv 5)) b_int) (fun _ _=>rfl)) b_int) (dH bO T.b_len (by kernel_rfl) (ag (bv 4) ae rfl))) (fun _ _=>rfl)))
  (ah (aH (aB (cZ (aD hr)) (ar aN (ar aZ (aI au (bv 2) (ar aG (ar dJ b_int (bv 5)) b_int) (fun _ _=>rfl)) b_int) b_int) b_int (aw _))
   (ah (ak (i:=6) aL.nd rfl (by first | exact Or.inl rfl | exact Or.inr rfl) (bT mD vJ (hr.mono (by first | decide | omega)) (ag (bv 6) (ag (aI au (bv 2) (ar dJ b_int (bv 5)) (fun _ _=>rfl)) ae rfl) rfl))))
   av)))
   av)
  (af (aH (aB rO (bv 6) (bv 4) rfl)
   (ah (nz (lQ (bv 4) (ag (bv 6) ae rfl))))
   av)
  (ah (Cr (Fx hr) (bv 3) (fJ (ag (bv 6) (ag (bT gY mY (hr.mono (by first | decide | omega)) (ag (aI au (bv 2) (ar aG (ar dJ b_int (bv 5)) b_int) (fun _ _=>rfl)) ae rfl)) ae rfl) rfl)) (bT gX mX (hr.mono (by first | decide | omega)) (ag (aI au (bv 2) (ar aG (ar dJ b_int (bv 5)) b_int) (fun _ _=>rfl)) ae rfl))))))))
  (ah (ai (jh (x:="_law_pair") (ix:=[3]) (fv:=["_law_found"]) (osc:=aa aP) rfl ⟨rfl,by decide +kernel,by decide +kernel,by rfl,by decide +kernel,by decide +kernel,by decide +kernel⟩ (by rfl) (EE (bv 3)) (fun _ _ _ _=>dA) (fun _ _ _ _=>(fJ (ag (aI (gG (K:=K) rfl) (bv 0) b_int (fun _ _=>rfl)) (ag (aI (gG (K:=K) rfl) (bv 0) b_int (fun _ _=>rfl)) (ag (EI (Fx hr) (bv 1) (bv 0) (fun _ _=>rfl)) ae rfl) rfl) rfl)))))))))),?_⟩
  kas_types;lcg_off;refine nJ (by omega) (by omega) (fun px Hx ns hpx sx hx hlx hnx=>?_);lcg_off;refine AS (fun d Hd Ju sd hd=>?_);lcg_off;rename_i pk Hk FF sk hk;have Ng:Hk d = some (.dT []):=sk _ _ hd;have SJ:Hk px = some (.lst (ns.map V.int)):=sk _ _ (sd _ _ hx);have Z7:Same H Hk:=Same.tr sk (Same.tr sd sx);have X5:H d = none:=Same.free sx Ju;have hkH:H pk = none:=Same.free (Same.tr sd sx) FF;have XA:d ≠ pk:=fun z=>by rw [z,hk] at Ng;cases Ng
  have nxd:px ≠ d:=fun z=>by rw [z,Ng] at SJ;cases SJ
  have nxk:px ≠ pk:=fun z=>by rw [<- z,sd _ _ hx] at FF;cases FF
  clear sx sd sk hx hd Ju FF hpx;have IZ:∀ {G:Hp} {i:Nat} {x:Int} {Q':VK} (j:Nat),i < m.toNat->j < 4->x = 4 * (i:Int) + (j:Int)->G px = some (.lst (ns.map V.int))->(∀ n:Int,0 <= n->Q' (.int n) G)->Fh K (.ref px) (.int x) G Q':=fun {G i x Q'} j hi hj hx hG q'=>by
   obtain ⟨k,rfl⟩:∃ k:Nat,x = k:=⟨4 * i + j,by rw [hx];omega⟩;have hl:k < ns.length:=by omega
   refine ig (SqL.of hG) (d6 (v:=.int ns[k]) (by rw [List.getElem?_map,List.getElem?_eq_getElem hl];rfl)) ?_;exact q' _ (hnx _ (List.getElem_mem hl))
  refine forR (fun i σ H'=>∃ (az:List (List Key × V)) (ws:List Str) (o5 o6:Option V),σ = [some (.int c),some (.int m),some (.ref px),some (.ref d),some (.ref pk),o5,o6]/\Same H H'/\H' d = some (.dT az)/\H' pk = some (.lst (ws.map V.str))/\H' px = some (.lst (ns.map V.int))/\(∀ kv ∈ az,HQ kv)/\(az.map (·.1)).Nodup/\az.length <= i/\(i = 0 \/ az ≠ [])/\ws.length <= i/\(∀ w ∈ ws,yU w))
   ⟨[],[],none,none,rfl,Z7,Ng,hk,SJ,fun kv h=>(nomatch h),List.nodup_nil,Nat.le_refl _,.inl rfl,Nat.le_refl _,fun w h=>(nomatch h)⟩ (fun i σ H' hi h=>?_) (fun σ H' h=>?_)
  ·obtain ⟨az,ws,o5,o6,rfl,sH,gd,gk,gx,TL,Lr,gl,_,gwl,gw⟩:=h;lcg_off;refine IZ 0 hi (by decide) (by omega) gx (fun n0 X2=>?_)
   lcg_off;refine y8 X2 (fun z0 H1 KS s1=>?_);kpt_turns;dsimp only;have Yk:=s1 _ _ gk;have Yh:=s1 _ _ gx;refine xC (fun σ' G=>∃ z:Str,yU z/\σ' = [some (.int c),some (.int m),some (.ref px),some (.ref d),some (.ref pk),some (.int (0 + (i:Int))),some (.str z)]/\Same H1 G) (fun nx hx=>?_) (fun σ' G h=>?_)
   ·lcg_off;rename_i pe Ge XZ se he;have Yj:=se _ _ Yk;have Nl:=se _ _ Yh;refine D4 Yj he ⟨_,rfl,?_⟩
    by_cases w0:ws = []
    ·rw [if_neg (by simp [w0])];rw [if_neg (by simp)];exact hx _ _ ⟨z0,KS,rfl,se⟩
    ·have ZO:=List.length_pos_iff.mpr w0;rw [if_pos (by simp [w0])];lcg_off;refine IZ 1 hi (by decide) (by omega) Nl (fun n1 S9=>?_)
     lcg_off;refine aF (fun c1=>?_) (fun c1=>?_)
     ·lcg_off;refine IZ 1 hi (by decide) (by omega) Nl (fun n2 Iw=>?_);lcg_off;refine AO (by rw [List.length_map];omega) ?_;refine nj (SqL.of Yj) (Int.emod_nonneg _ (by rw [List.length_map];omega)) (Int.emod_lt_of_pos _ (by rw [List.length_map];omega)) (fun u hu=>?_);obtain ⟨z1,zc,rfl⟩:=List.mem_map.mp hu;lcg_off;refine IZ 1 hi (by decide) (by omega) Nl (fun n3 hn3=>?_);lcg_off;refine aF (fun c2=>?_) (fun c2=>?_)
      ·lcg_off;refine IZ 0 hi (by decide) (by omega) Nl (fun n4 hn4=>?_);lcg_off;refine Bp (gw z1 zc) hn4 (fun z2 Jm=>?_);exact hx _ _ ⟨z2,Jm,rfl,se⟩
      ·exact hx _ _ ⟨z1,gw z1 zc,rfl,se⟩
     ·exact hx _ _ ⟨z0,KS,rfl,se⟩
   ·obtain ⟨z,hz,rfl,sG⟩:=h;have Jw:=sG _ _ Yk;have Yg:=sG _ _ Yh;have Yl:=sG _ _ (s1 _ _ gd);have Xn:Same H G:=Same.tr sG (Same.tr s1 sH);refine xC (fun σ' G2=>∃ JA:List Str,σ' = [some (.int c),some (.int m),some (.ref px),some (.ref d),some (.ref pk),some (.int (0 + (i:Int))),some (.str z)]/\Same H G2/\G2 d = some (.dT az)/\G2 pk = some (.lst (JA.map V.str))/\G2 px = some (.lst (ns.map V.int))/\JA.length <= i + 1/\(∀ w ∈ JA,yU w)) (fun nx hx=>?_) (fun σ' G2 h=>?_)
    ·lcg_off;refine GR (SqL.of Jw) (fun bb=>?_);lcg_off
     cases bb with
     | false =>
      rw [if_neg (by simp)];exact hx _ _ ⟨ws,rfl,Xn,Yl,Jw,Yg,by omega,gw⟩
     | true =>
      rw [if_pos rfl];lcg_off;refine iU Jw (by rw [List.length_map,sizeLine_eq];omega) ?_;lcg_off;refine hx _ _ ⟨ws ++ [z],rfl,fX Xn hkH,by rw [ay XA];exact Yl,by rw [aC,List.map_append];rfl,by rw [ay nxk];exact Yg,by rw [List.length_append];simp;omega,fun w hw=>(List.mem_append.mp hw).elim (gw w) (fun e=>by rw [List.mem_singleton.mp e];exact hz)⟩
    ·obtain ⟨JA,rfl,k1,k2,k3,k4,k5,k6⟩:=h;lcg_off;refine IZ 3 hi (by decide) (by omega) k4 (fun n5 S8=>?_)
     lcg_off;refine tm S8 (fun v H5 hv s5=>?_);lcg_off;refine IZ 2 hi (by decide) (by omega) (s5 _ _ k4) (fun n6 hn6=>?_);lcg_off;refine tO hn6 (fun st H6 ZW Ji s6=>?_);lcg_off;rename_i b H7 s7 hb7;have MQ:Same G2 H7:=Same.tr s7 (Same.tr s6 s5);refine AR (k:=[.inr z,.inl st]) (MQ _ _ k2) hb7 (by rw [sizeLine_eq];omega) ?_;have hlp:=iC az ([.inr z,.inl st]:List Key) v;exact ⟨_,JA,_,_,rfl,fX (Same.tr MQ k1) X5,aC,by rw [ay (Ne.symm XA)];exact MQ _ _ k3,by rw [ay nxd];exact MQ _ _ k4,Dw TL ⟨hz,ZW,Ji⟩ hv,Dy Lr,by omega,.inr Dx,k5,k6⟩
  ·obtain ⟨az,ws,o5,o6,rfl,sH,gd,gk,gx,TL,Lr,gl,gne,gwl,gw⟩:=h;have hne:az ≠ []:=gne.resolve_left (by omega);lcg_off;refine ⟨d,az,rfl,gd,fun o=>?_⟩
   have sF:Same H (upd H' d (.frz o (.dT az))):=fX sH X5;have gF:upd H' d (.frz o (.dT az)) d = some (.frz o (.dT az)):=aC;generalize upd H' d (.frz o (.dT az)) = HF at *;refine Ry (fun i ys G=>Same HF G/\∃ es:List Ent,Reps G (es.map aK) ys/\es.length = i/\es.map (fun e=>([.inr e.1,.inl e.2.1]:List Key)) = (az.map (·.1)).take i/\∀ e ∈ es,wG e) (by rw [sizeLine_eq];omega) ⟨Same.refl _,[],by simp only [List.map_nil,Reps],rfl,rfl,fun e h=>(nomatch h)⟩ (fun i ys G h=>?_) (fun i k v b ys G hk hb h=>?_) (fun ys D G G1 h hD sD hG=>?_)
   ·obtain ⟨s1,es,h1,h2,h3,h4⟩:=h;exact ⟨s1 _ _ gF,by rw [<- h1.length,List.length_map,h2]⟩
   ·obtain ⟨s1,es,h1,h2,h3,h4⟩:=h;obtain ⟨wd,st,ek,xX,hv⟩:=TL (k,v) (List.mem_of_getElem? hk);dsimp only at ek xX hv;subst ek;have Ep:G b = some (.tup [.str wd,.int st]):=hb;lcg_off;refine ⟨d,v,rfl,.inr ⟨az,[.inr wd,.inl st],b,.inr ⟨o,s1 _ _ gF⟩,rfl,hb,(zL Lr hk).symm⟩,?_⟩;lcg_off;rename_i b4 G4 s4 Ts;obtain ⟨ov,hov,hoo⟩:=hv.rep G4;refine ⟨Same.tr s4 s1,es ++ [(wd,st,ov)],?_,by rw [List.length_append,h2];rfl,?_,fun e he=>(List.mem_append.mp he).elim (h4 e) (fun z=>by rw [List.mem_singleton.mp z];exact ⟨xX.1,xX.2,hoo⟩)⟩
    ·rw [List.map_append];exact Reps.snoc (h1.same s4) (rX Ts hov)
    ·rw [List.map_append,h3,List.take_succ_eq_append_getElem (by rw [List.length_map];exact (List.getElem?_eq_some_iff.mp hk).1)]
     congr 1
     obtain ⟨eQ,e⟩:=List.getElem?_eq_some_iff.mp hk;rw [List.getElem_map,e]
     rfl
   ·obtain ⟨s1,es,h1,h2,h3,h4⟩:=h;rw [List.take_of_length_le (by rw [List.length_map];exact Nat.le_refl _)] at h3;have BR:=List.length_pos_iff.mpr hne;refine q D _ ys es (Same.free sF (Same.free s1 hD)) (Same.tr sD (Same.tr s1 sF)) hG (h1.same sD) ?_ (by omega) (by omega) h4;rw [<- h3] at Lr;refine eO (f:=fun r:RK=>([.inr r.1,.inl (-r.2)]:List Key)) ?_
    rw [List.map_map];have e:((fun r:RK=>([.inr r.1,.inl (-r.2)]:List Key)) ∘ pF) = fun e:Ent=>([.inr e.1,.inl e.2.1]:List Key):=by
     funext e
     show [Sum.inr e.1,Sum.inl (- -e.2.1)] = _;rw [Int.neg_neg]
    rw [e];exact Lr
theorem qb (h0:1 <= m) (hm:m <= 199) (q:∀ p H' (xs:List V) (es:List Ent),H p = none->Same H H'->H' p = some (.lst xs)->Reps H' (es.map aK) xs->(es.map pF).Nodup->es.length <= 199->1 <= es.length->(∀ e ∈ es,wG e)->Q (.ref p) H'):lV K [.int c,.int m] H Q E:=⟨c,m,rfl,h0,hm,q⟩
end
section
def KH (H:Hp):V->RK
 | .ref a=>match H a with
  | some (.tup (.str k :: .int s :: _))=>(k,-s)
  | _=>(⟨#[]⟩,0)
 | _=>(⟨#[]⟩,0)
theorem kf_at (h:Rep H (aK e) v):KH H v = pF e:=by
 obtain ⟨a,x,rfl,ha,_⟩:=fh h;unfold KH;dsimp only;rw [ha]
 rfl
def iI (es:List Ent):Prop:=es.Pairwise fun a b=>eZ (pF a) (pF b) = true
theorem dz {H:Hp}:∀ {es:List Ent} {xs:List V},Reps H (es.map aK) xs->∃ L:List (Ent × V),L.map (·.1) = es/\L.map (·.2) = xs/\∀ t ∈ L,Rep H (aK t.1) t.2
 | [],xs,h=>by
  simp only [List.map_nil,Reps] at h;subst h;exact ⟨[],rfl,rfl,fun t h=>(nomatch h)⟩
 | e :: es,xs,h=>by
  simp only [List.map_cons,Reps] at h;obtain ⟨v,r,rfl,h1,h2⟩:=h;obtain ⟨L,l1,l2,l3⟩:=dz h2;refine ⟨(e,v) :: L,by rw [List.map_cons,l1],by rw [List.map_cons,l2],fun t ht=>?_⟩
  rcases List.mem_cons.mp ht with rfl | ht
  ·exact h1
  ·exact l3 t ht
theorem jF {H:Hp}:∀ {L:List (Ent × V)},(∀ t ∈ L,Rep H (aK t.1) t.2)->Reps H ((L.map (·.1)).map aK) (L.map (·.2))
 | [],_=>by simp only [List.map_nil,Reps]
 | t :: L,h=>by
  simp only [List.map_cons,Reps];exact ⟨_,_,rfl,h t List.mem_cons_self,jF fun u hu=>h u (List.mem_cons_of_mem _ hu)⟩
theorem yt {X : Cx} {pl fa : Addr} (hl : SqL X.K H pl xs) (en : Reps H (es.map aK) xs) (nd : (es.map pF).Nodup) (hz : es.length < 100000) (hk : ∀ e v, Rep H (aK e) v -> xi X X.A.in1.in1 (.ref fa) H (KH H) v)
    (q:∀ xs' jf l H1,jf.Perm es->iI jf->H l = none->Same H H1->H1 l = some (.lst xs')->Reps H1 (jf.map aK) xs'->Q (.ref l) H1):oa X [.ref pl] (.ref fa) H Q:=by
 obtain ⟨L,l1,l2,l3⟩:=dz en;have ekf:∀ {M:List (Ent × V)},(∀ t ∈ M,Rep H (aK t.1) t.2)->(M.map (·.2)).map (KH H) = (M.map (·.1)).map pF:=fun {M} h=>by
  rw [List.map_map,List.map_map];exact List.map_congr_left fun t ht=>kf_at (h t ht)
 refine ⟨pl,xs,KH H,fa,rfl,rfl,hl,?_,?_,fun y hy=>?_,fun xs' l H1 pm ri hn s1 h1=>?_⟩
 ·rw [<- l2,List.length_map];rw [<- l1,List.length_map] at hz;exact hz
 ·rw [<- l2,ekf l3,l1];exact nd
 ·rw [<- l2] at hy;obtain ⟨t,ht,rfl⟩:=List.mem_map.mp hy;exact hk t.1 t.2 (l3 t ht)
 ·obtain ⟨L',p1,p2⟩:=perm_lift pm L l2.symm;have Ia:∀ t ∈ L',Rep H (aK t.1) t.2:=fun t ht=>l3 t (p1.mem_iff.mp ht)
  refine q xs' (L'.map (·.1)) l H1 (by rw [<- l1];exact p1.map _) ?_ hn s1 h1 (by rw [p2];exact jF fun t ht=>(Ia t ht).same s1)
  unfold iI;unfold jT at ri;rw [p2,List.pairwise_map] at ri;rw [List.pairwise_map];exact ri.imp_of_mem fun {a b} ha hb h=>by
   rw [kf_at (Ia a ha),kf_at (Ia b hb)] at h;exact h
end
section
abbrev zB (H H':Hp):Prop:=∀ a xs,H a = some (.tup xs)->H' a = some (.tup xs)
theorem zO {l:Addr} {o:HO} (h:H l = some (.lst xs)):zB H (upd H l o):=fun a ys e=>by
 rw [ay (fun z=>by rw [z,h] at e;cases e)];exact e
theorem nV (s:SameN H H'):zB H H':=fun a xs e=>s _ _ e (fun _ z=>by cases z)
theorem Rep.tups (s:zB H H') (h:Rep H (aK e) v):Rep H' (aK e) v:=by
 obtain ⟨a,x,rfl,ha,hx⟩:=fh h;refine rX (s _ _ ha) ?_
 cases h:e.2.2 with
 | none=>rw [h] at hx;exact hx
 | some z=>rw [h] at hx;exact hx
theorem Reps.tups {H H':Hp} (s:zB H H'):∀ {es:List Ent} {xs:List V},Reps H (es.map aK) xs->Reps H' (es.map aK) xs
 | [],xs,h=>by simp only [List.map_nil,Reps] at h ⊢;exact h
 | e :: es,xs,h=>by
  simp only [List.map_cons,Reps] at h ⊢;obtain ⟨v,r,rfl,h1,h2⟩:=h;exact ⟨v,r,rfl,Rep.tups s h1,Reps.tups s h2⟩
theorem Reps.sameN (s:SameN H H') (h:Reps H (es.map aK) xs):Reps H' (es.map aK) xs:=Reps.tups (nV s) h
def HZ:Pos:=match aj aQ with
 | [.Return (some (.Call _ _ [⟨_,.Lambda _ _ _ p,_⟩] _)) _]=>p
 | _=>⟨0,0,0,0⟩
abbrev EL (H:Hp):Prop:=TabOk mE HZ (Str.ofString "_law_in_order" ++ Str.ofString ".<locals>." ++ Str.ofString "<lambda>") H
def E1 (K:W.Frag):Sp:=fun vs H Q _=>∃ (p:Addr) (xs:List V) (es:List Ent),vs = [.ref p]/\H p = some (.lst xs)/\Reps H (es.map aK) xs/\(es.map pF).Nodup/\es.length < 1000/\EL H/\∀ xs' jf l H1,jf.Perm es->iI jf->SameB mE H H1->EL H1->H1 l = some (.lst xs')->Reps H1 (jf.map aK) xs'->Q (.ref l) H1
theorem kZ:ao ["_law_entries"] ["_law_entries"] (aa aQ):=⟨rfl,rfl,rfl,by decide +kernel,rfl,by decide +kernel,by decide +kernel⟩
theorem lE (T:Txt K mg) (vO:∀ p ∈ tabs,base.BuiltinsAt mg p) (N:Fn K mg "_law_in_order" aQ ["_law_entries"] f fd) {cd:Addr} (IB:fd.code = .ref cd) (me:W.codeHdIn K cd mE = true) (kIn:K.In base):FnOk P w K mg base cB (5) f fd ["_law_entries"] (E1 K):=by
 have hB:=vO mE (by simp);refine N.fu.okC kZ (fun vs H Q E h=>?_) (fun bA A outer s H vs Q E Tq hr h=>?_)
 ·obtain ⟨p,xs,es,rfl,_⟩:=h
  rfl
 ·obtain ⟨p,xs,es,rfl,hp,en,nd,hz,ht,q⟩:=h;obtain rfl:bA = Value.ref cd:=Tq.symm.trans IB;have hC:=W.codeHd_of_K kIn me;have jN:(Value.ref cd) = Value.ref cd:=rfl;refine ⟨_,(ah (ai (EG T.b_sorted (ag (bv 0) ae rfl) (IX jN hC hB)))),?_⟩;kas_types;lcg_off;refine ⟨ht,fun f c' H1 hf s1 BN hf1 hc1=>?_⟩
  obtain ⟨qs,hT⟩:=ht.tbl;have Xr:=s1.toN hT;have FC:=Xr _ _ hp (fun _ z=>by cases z)
  have Tj:=Reps.sameN Xr en;refine yt (SqL.of FC) Tj nd (by omega) (fun e v he=>By (k:=1) (N:=["_law_entry"]) (p:="_law_entry") ⟨rfl,rfl,rfl,by decide +kernel,rfl,by decide +kernel,by decide +kernel⟩ (hr.mono (by decide:4 <= 4)).in1.in1 hf1 hc1 (fun _ _ _=>rfl) fun s Hi si CN=>?_) (fun xs' jf l H2 a b c d f g=>?_)
  ·obtain ⟨a,x,rfl,ha,hx⟩:=fh he;refine ⟨_,(fJ (ag (aI au (bv 0) b_int (fun _ _=>rfl)) (ag (ar jG b_int (aI au (bv 0) b_int (fun _ _=>rfl))) ae rfl) rfl)),?_⟩
   kas_types;lcg_off;rw [kf_at he,pF,<- Int.zero_sub];exact ⟨_,rfl,by assumption,by assumption⟩
  ·exact q xs' jf l H2 a b (s1.trans (.of d)) (BN.same d) f g
theorem DZ (es:List Ent) (hp:H p = some (.lst xs)) (en:Reps H (es.map aK) xs) (nd:(es.map pF).Nodup) (hz:es.length < 1000) (ht:EL H) (q:∀ xs' jf l H1,jf.Perm es->iI jf->SameB mE H H1->EL H1->H1 l = some (.lst xs')->Reps H1 (jf.map aK) xs'->Q (.ref l) H1):E1 K [.ref p] H Q E:=⟨p,xs,es,rfl,hp,en,nd,hz,ht,q⟩
theorem SqL.sameN (h:SqL K H a xs) (s:SameN H H'):SqL K H' a xs:=by
 rcases h with (h | ⟨o,h⟩) | h
 ·exact .inl (.inl (s _ _ h (fun _ z=>by cases z)))
 ·exact .inl (.inr ⟨o,s _ _ h (fun _ z=>by cases z)⟩)
 ·exact .inr h
def tR (K:W.Frag):Sp:=fun vs H Q _=>∃ (a:Addr) (ns:List Int) (k:Nat),vs = [.ref a,.int k]/\SqL K H a (ns.map V.int)/\EL H/\∀ xs' jf l H1,iI jf->(∀ e ∈ jf,wG e)->jf.length <= 199->1 <= jf.length->SameB mE H H1->EL H1->H1 l = some (.lst xs')->Reps H1 (jf.map aK) xs'->Q (.ref l) H1
theorem mI:ao ["_law_script","_law_at"] ["_law_script","_law_at"] (aa bL):=⟨rfl,rfl,rfl,by decide +kernel,rfl,by decide +kernel,by decide +kernel⟩
theorem mO (T:Txt K mg) (vO:∀ p ∈ tabs,base.BuiltinsAt mg p) (kIn:K.In base) (N:Fn K mg "_law_rows_by" bL ["_law_script","_law_at"] f fd):FnOk P w K mg base cB (6) f fd ["_law_script","_law_at"] (tR K):=by
 obtain ⟨_,_,_,gZ,kn,ko⟩:=T.c__law_in_order;have mZ:=lE (P:=P) (w:=w) (base:=base) T vO gZ kn ko kIn;obtain ⟨_,_,fM⟩:=T.f__law_entries_by;have kQ:=jJ (P:=P) (w:=w) (base:=base) T fM;obtain ⟨_,_,bR⟩:=T.f__law_cell_at;have cV:=gW (P:=P) (w:=w) (base:=base) T bR;obtain ⟨_,_,iK⟩:=T.f__law_many_by;have pC:=mP (P:=P) (w:=w) (base:=base) T iK;refine N.fu.okB mI (fun vs H Q E h=>?_) (fun bA A outer s H vs Q E hr h=>?_)
 ·obtain ⟨a,ns,k,rfl,_⟩:=h
  rfl
 ·obtain ⟨a,ns,k,rfl,hS,ht,q⟩:=h;refine ⟨_,(ah (ai (bT gZ mZ (hr.mono (by first | decide | omega)) (ag (bT fM kQ (hr.mono (by first | decide | omega)) (ag (bT bR cV (hr.mono (by first | decide | omega)) (ag (bv 0) (ag (bv 1) ae rfl) rfl)) (ag (bT iK pC (hr.mono (by first | decide | omega)) (ag (bT bR cV (hr.mono (by first | decide | omega)) (ag (bv 0) (ag (ar aG (bv 1) b_int) ae rfl) rfl)) ae rfl)) ae rfl) rfl)) ae rfl)))),?_⟩;kas_types;lcg_off;refine kB (k:=k) hS rfl ?_;lcg_off;refine kB (k:=k + 1) hS (by omega) ?_;lcg_off;refine wL (fun m m0 m1=>?_)
  lcg_off;refine qb m0 m1 (fun p H1 xs es BU s1 hp en nd hl CO xX=>?_);lcg_off;refine DZ es hp en nd (by omega) (ht.same s1) (fun xs' jf l H2 pm rise s2 M7 mS BY=>?_);have:=pm.length_eq;exact q xs' jf l H2 rise (fun e he=>xX e (pm.mem_iff.mp he)) (by omega) (by omega) ((SameB.of s1).trans s2) M7 mS BY
theorem nX {ns:List Int} (k:Nat) (hi:i = (k:Int)) (hS:SqL K H a (ns.map V.int)) (ht:EL H) (q:∀ xs' jf l H1,iI jf->(∀ e ∈ jf,wG e)->jf.length <= 199->1 <= jf.length->SameB mE H H1->EL H1->H1 l = some (.lst xs')->Reps H1 (jf.map aK) xs'->Q (.ref l) H1):tR K [.ref a,.int i] H Q E:=⟨a,ns,k,by rw [hi],hS,ht,q⟩
end
section
def pT (f:Int) (n:Int) (c:Nat):Int:=(n * f + (c:Int)) % 1000003
def numM (f:Int) (cs:List Nat):Int:=cs.foldl (pT f) 7
def vo (sz:Int) (z:Str) (b f:Int):Int:=Builtin.bitOr b (1 * 2 ^ (numM f z.cps.toList % sz).toNat)
def fC (sz:Int) (b:Int) (z:Str):Int:=([31,37,41]:List Int).foldl (vo sz z) b
def qy (zs:List Str):Int:=zs.foldl (fC (8 * (zs.length:Int))) 0
def rA (K:W.Frag):Sp:=fun vs H Q _=>∃ (p:Addr) (xs:List V) (es:List Ent),vs = [.ref p]/\H p = some (.lst xs)/\Reps H (es.map aK) xs/\es.length < 1000/\1 <= es.length/\∀ t H1 (zs:List Str),Same H H1->H1 t = some (.tup [.int (8 * (zs.length:Int)),.int (qy zs)])->zs.Pairwise (fun x y=>x.cps.toList < y.cps.toList)->(∀ z,z ∈ zs ↔ ∃ e ∈ es,e.1 = z)->Q (.ref t) H1
theorem aT:ao ["_law_entries","_law_keys","_law_size","_law_bits","_law_named","_law_factor","_law_number","_law_sign"] ["_law_entries"] (aa bX):=⟨rfl,rfl,rfl,by decide +kernel,rfl,by decide +kernel,by decide +kernel⟩
theorem fN (T:Txt K mg) (N:Fn K mg "_law_sieve" bX ["_law_entries"] f fd):FnOk P w K mg base cB (2) f fd ["_law_entries"] (rA K):=by
 refine N.fu.okB aT (fun vs H Q E h=>?_) (fun bA A outer s H vs Q E hr h=>?_)
 ·obtain ⟨p,xs,es,rfl,_⟩:=h
  rfl
 ·obtain ⟨p,xs,es,rfl,hp,en,hz,zc,q⟩:=h;have Ir:=en.length;rw [List.length_map] at Ir;obtain ⟨L,l1,l2,l3⟩:=dz en;refine ⟨_,(af (ak (i:=1) aT.nd rfl (by first | exact Or.inl rfl | exact Or.inr rfl) (dH EC T.b_sorted (by kernel_rfl) (ag (yc Co T.b_set (by kernel_rfl) (ag (jh (x:="_law_entry") (ix:=[]) (fv:=[]) (osc:=aa bX) rfl ⟨rfl,by decide +kernel,by decide +kernel,by rfl,by decide +kernel,by decide +kernel,by decide +kernel⟩ (by rfl) (d5 (bv 0)) (fun _ _ _ _=>dA) (fun _ _ _ _=>(aI (gG (K:=K) rfl) (bv 0) b_int (fun _ _=>rfl)))) ae rfl)) ae rfl)))
  (af (ak (i:=2) aT.nd rfl (by first | exact Or.inl rfl | exact Or.inr rfl) (ar dJ b_int (dH bO T.b_len (by kernel_rfl) (ag (bv 1) ae rfl))))
  (af (ak (i:=3) aT.nd rfl (by first | exact Or.inl rfl | exact Or.inr rfl) b_int)
  (af (eF PassesOwn.never rfl (d5 (bv 1)) (cJ (i:=4) aT.nd rfl (by first | exact Or.inl rfl | exact Or.inr rfl))
   (ah (eF PassesOwn.never rfl (oY (fJ (ag b_int (ag b_int (ag b_int ae rfl) rfl) rfl))) (cJ (i:=5) aT.nd rfl (by first | exact Or.inl rfl | exact Or.inr rfl))
   (af (ak (i:=6) aT.nd rfl (by first | exact Or.inl rfl | exact Or.inr rfl) b_int)
  (af (eF PassesOwn.never rfl (jR (bv 4)) (cJ (i:=7) aT.nd rfl (by first | exact Or.inl rfl | exact Or.inr rfl))
   (ah (ak (i:=6) aT.nd rfl (by first | exact Or.inl rfl | exact Or.inr rfl) (ar aN (ar aG (ar dJ (bv 6) (bv 5)) (dH kC T.b_ord (by kernel_rfl) (ag (bv 7) ae rfl))) b_int))))
  (ah (ak (i:=3) aT.nd rfl (by first | exact Or.inl rfl | exact Or.inr rfl) (ar Fm (bv 3) (ar xK b_int (ar aN (bv 6) (bv 2)))))))))))
  (ah (ai (fJ (ag (bv 2) (ag (bv 3) ae rfl) rfl)))))))),?_⟩
  kas_types;lcg_off;refine Bx (xs:=xs) (fun i us F=>Same H F/\us = (es.take i).map (fun e=>V.str e.1)/\i <= es.length) (by rw [<- Ir,sizeLine_eq];omega) ⟨Same.refl _,rfl,Nat.zero_le _⟩ (fun i us F h=>⟨SqL.of (h.1 _ _ hp),by rw [h.2.1,List.length_map,List.length_take];have:=h.2.2;omega⟩) (fun i v us F hv h=>?_) (fun us pu F F1 h sZ sF hF=>?_)
  ·obtain ⟨f1,rfl,f3⟩:=h;rw [<- l2,List.getElem?_map] at hv;obtain ⟨te,Fz,rfl⟩:=Option.map_eq_some_iff.mp hv;have ID:es[i]? = some te.1:=by rw [<- l1,List.getElem?_map,Fz];rfl
   obtain ⟨oI,xY⟩:=List.getElem?_eq_some_iff.mp ID;obtain ⟨c,x,ec,hc,hx⟩:=fh ((l3 te (List.mem_of_getElem? Fz)).same f1);rw [ec];lcg_off;exact ⟨f1,by rw [List.take_succ_eq_append_getElem oI,xY,List.map_append];rfl,oI⟩
  obtain ⟨f1,rfl,_⟩:=h;rw [<- Ir,List.take_length] at hF;have Yd:F1 pu = some (.lst ((es.map (·.1)).map V.str)):=by rw [List.map_map];exact hF
  have Xm:Same H F1:=Same.tr sF f1;clear hF sF f1 l3;lcg_off;refine xF (es.map (·.1)) (SqL.of Yd) (by rw [List.length_map];omega) (fun pl G2 sE s2 h2=>?_)
  lcg_off;have ol:=SW.onces_le (es.map (·.1));rw [List.length_map] at ol;refine AM _ h2 (SW.onces_nd _) (by omega) (fun zs pz G3 OL SO hpz s3 h3=>?_);have hk:∀ z,z ∈ zs ↔ ∃ e ∈ es,e.1 = z:=fun z=>by rw [OL.mem_iff,SW.onces_mem,List.mem_map]
  have KR:zs.length < 1000:=by rw [OL.length_eq];omega
  have KS:0 < zs.length:=by
   cases es with
   | nil=>simp at zc
   | cons e r=>exact List.length_pos_of_mem ((hk e.1).mpr ⟨e,List.mem_cons_self,rfl⟩)
  have Z8:Same H G3:=Same.tr s3 (Same.tr s2 Xm);clear Yd sE s2 h2 Xm hpz s3 OL ol;lcg_off;rw [List.length_map];have Cu:(Builtin.Int.intBits 1:Int) = 1:=by decide +kernel
  obtain ⟨sz,hsz⟩:∃ sz:Int,8 * (zs.length:Int) = sz:=⟨_,rfl⟩;rw [hsz];refine forL (xs:=zs.map V.str) (fun i σ H'=>∃ (o4 o5 o6 o7:Option V),σ = [some (.ref p),some (.ref pz),some (.int sz),some (.int ((zs.take i).foldl (fC sz) 0)),o4,o5,o6,o7]/\Same G3 H')
   ⟨none,none,none,none,rfl,Same.refl _⟩ (fun i σ H' h=>by obtain ⟨_,_,_,_,_,a⟩:=h;exact SqL.of (a _ _ h3)) (fun i x σ H' hi hx h=>?_) (fun σ H' h=>?_)
  ·obtain ⟨o4,o5,o6,o7,rfl,g1⟩:=h;rw [List.getElem?_map] at hx;obtain ⟨z,SA,rfl⟩:=Option.map_eq_some_iff.mp hx;obtain ⟨Sz,SD⟩:=List.getElem?_eq_some_iff.mp SA;have BN:(zs.take (i + 1)).foldl (fC sz) 0 = fC sz ((zs.take i).foldl (fC sz) 0) z:=by
    rw [List.take_succ_eq_append_getElem Sz,SD,List.foldl_append]
    rfl
   generalize (zs.take i).foldl (fC sz) 0 = b0 at *;lcg_off;rename_i pt Ht st hpt;refine TU (xs:=[.int 31,.int 37,.int 41]) (fun j σ F=>∃ (o5 o6 o7:Option V),σ = [some (.ref p),some (.ref pz),some (.int sz),some (.int ((([31,37,41]:List Int).take j).foldl (vo sz z) b0)),some (.str z),o5,o6,o7]/\Same Ht F)
    ⟨_,_,_,rfl,Same.refl _⟩ (fun j σ F h=>by obtain ⟨_,_,_,_,a⟩:=h;exact SqT.of (a _ _ hpt)) (fun j x σ F hj hx h=>?_) (fun σ F h=>?_)
   ·obtain ⟨o5,o6,o7,rfl,g2⟩:=h;obtain ⟨fa,El,rfl⟩:∃ fa:Int,([31,37,41]:List Int)[j]? = some fa/\x = .int fa:=by
     have e:([.int 31,.int 37,.int 41]:List V) = ([31,37,41]:List Int).map V.int:=rfl;rw [e,List.getElem?_map] at hx;obtain ⟨fa,h1,h2⟩:=Option.map_eq_some_iff.mp hx;exact ⟨fa,h1,h2.symm⟩
    have hf3:fa = 31 \/ fa = 37 \/ fa = 41:=by simpa using List.mem_of_getElem? El
    obtain ⟨hfl,hfe⟩:=List.getElem?_eq_some_iff.mp El;have Td:(([31,37,41]:List Int).take (j + 1)).foldl (vo sz z) b0 = vo sz z ((([31,37,41]:List Int).take j).foldl (vo sz z) b0) fa:=by
     rw [List.take_succ_eq_append_getElem hfl,hfe,List.foldl_append]
     rfl
    generalize (([31,37,41]:List Int).take j).foldl (vo sz z) b0 = b1 at *;lcg_off;refine Es (z:=z) (fun k σ F2=>∃ (o7:Option V),σ = [some (.ref p),some (.ref pz),some (.int sz),some (.int b1),some (.str z),some (.int fa),some (.int ((z.cps.toList.take k).foldl (pT fa) 7)),o7]/\F2 = F)
     ⟨_,rfl,rfl⟩ (fun k ch σ F2 hk me h=>?_) (fun σ F2 h=>?_)
    ·obtain ⟨o7,rfl,rfl⟩:=h;obtain ⟨pZ,IA⟩:=List.getElem?_eq_some_iff.mp me;have wV:(z.cps.toList.take (k + 1)).foldl (pT fa) 7 = pT fa ((z.cps.toList.take k).foldl (pT fa) 7) ch:=by
      rw [List.take_succ_eq_append_getElem pZ,IA,List.foldl_append]
      rfl
     lcg_off;lcg_off;refine ⟨_,rfl,rfl,?_⟩;lcg_off;refine ⟨some (.str ⟨#[ch]⟩),?_,rfl⟩;rw [wV]
     rfl
    ·obtain ⟨o7,rfl,rfl⟩:=h;rw [List.take_length];have e0:=Int.emod_nonneg (numM fa z.cps.toList) (show sz ≠ 0 by omega);have e1:=Int.emod_lt_of_pos (numM fa z.cps.toList) (show 0 < sz by omega);rw [show z.cps.toList.foldl (pT fa) 7 = numM fa z.cps.toList from rfl];lcg_off;refine ni ⟨e0,by rw [Cu];omega⟩ ?_;lcg_off;refine ⟨some (.int fa),some (.int (numM fa z.cps.toList)),o7,?_,g2⟩;rw [Td]
     rfl
   ·obtain ⟨o5,o6,o7,rfl,g2⟩:=h;refine ⟨some (.str z),o5,o6,o7,?_,Same.tr g2 (Same.tr st g1)⟩;rw [BN]
    rfl
  ·obtain ⟨o4,o5,o6,o7,rfl,g1⟩:=h;rw [List.length_map,List.take_length];lcg_off;rename_i t Ht st ht;refine q t Ht zs (Same.tr st (Same.tr g1 Z8)) ?_ SO hk;rw [hsz,qy,hsz];exact ht
theorem qx (es:List Ent) (hp:H p = some (.lst xs)) (en:Reps H (es.map aK) xs) (hz:es.length < 1000) (zc:1 <= es.length) (q:∀ t H1 (zs:List Str),Same H H1->H1 t = some (.tup [.int (8 * (zs.length:Int)),.int (qy zs)])->zs.Pairwise (fun x y=>x.cps.toList < y.cps.toList)->(∀ z,z ∈ zs ↔ ∃ e ∈ es,e.1 = z)->Q (.ref t) H1):rA K [.ref p] H Q E:=⟨p,xs,es,rfl,hp,en,hz,zc,q⟩
end
section
def inner:Stmt:=match aj eN with
 | d :: _=>d
 | _=>.Pass ⟨0,0,0,0⟩
abbrev KP:Pos:=match inner with
 | .FunctionDef _ _ _ _ _ _ _ _ _ p=>p
 | _=>⟨0,0,0,0⟩
abbrev xV:Str:=Str.ofString "probe" ++ Str.ofString ".<locals>." ++ Str.ofString "place_of"
abbrev gj (H:Hp):Prop:=TabOk dB KP xV H
abbrev C9:Sp:=E5 dB KP "place_of" xV (aq inner) (aj inner) (aa inner) "factor"
theorem AB:ao ["factor","place_of"] ["factor"] (aa eN):=⟨rfl,rfl,rfl,by decide +kernel,rfl,by decide +kernel,by decide +kernel⟩
theorem fG:pD ["key","size","number","sign","factor"] ["key","size"] "factor" 4 (aa inner):=⟨rfl,rfl,rfl,by decide +kernel,rfl,by decide +kernel,by decide +kernel,rfl,by decide +kernel,rfl,by decide⟩
theorem zu (env:Env) (cc:Addr) (h:env.cells.lookup (Str.ofString "factor") = some cc):closureFor (aa inner) env = pure [(Str.ofString "factor",cc)]:=by
 have e:(aa inner).names = ([(Str.ofString "key",NameKind.local),(Str.ofString "size",NameKind.local),(Str.ofString "number",NameKind.local),(Str.ofString "sign",NameKind.local),(Str.ofString "factor",NameKind.free),(Str.ofString "FIRST_NUMBER_sieves",NameKind.globalImplicit),(Str.ofString "ord",NameKind.globalImplicit),(Str.ofString "MODULUS_sieves",NameKind.globalImplicit)]:List (Str × NameKind)):=by rfl
 unfold closureFor;rw [e];simp [cellOf,h]
theorem Bm (T:Txt K mg) (vO:∀ p ∈ tabs,base.BuiltinsAt mg p) (N:Fn K mg "probe" eN ["factor"] f fd) {cd:Addr} (IB:fd.code = .ref cd) (me:W.codeHdIn K cd dB = true) (kIn:K.In base):FnOk P w K mg base cB 1 f fd ["factor"] C9:=by
 exact IM (k:=0) N.fu AB rfl rfl (by decide) (np:=_) (rpos:=_) rfl rfl rfl (fun _=>rfl) zu (fun _ _=>rfl) (by decide) IB (W.codeHd_of_K kIn me) (vO dB (by simp))
end
section
def cy (z:Str) (sz:Int):List Int:=([31,37,41]:List Int).map fun f=>numM f z.cps.toList % sz
theorem yK {fa : Int} {ff c' cc : Addr} (T : Txt K mg) (hz : 0 < sz) (El : -(2 ^ 64) < fa /\ fa < 2 ^ 64) (h1 : H ff = some (.ext (pE "place_of" xV (aq inner) (aj inner) (aa inner) [("factor", cc)] ff c'))) (h2 : H c' = some (.ext (fB xV c'))) (h3 : H cc = some (.ext (xo (.int fa) cc)))
    (q:Q (.int (numM fa z.cps.toList % sz)) H):yf P w K mg base 1 ff [.str z,.int sz] H Q:=by
 refine AE (k:=0) (R:=fun v=>v = .int (numM fa z.cps.toList % sz)) fG h1 h2 h3 (fun us doc pm iG hl=>match us,hl with | [_,_],_=>rfl) rfl (fun A outer s hr=>?_) (fun v hv=>by rw [hv];exact q)
 generalize del H cc = H0;refine ⟨_,(af (ak (i:=2) fG.nd rfl (by first | exact Or.inl rfl | exact Or.inr rfl) (dG T.g_FIRST_NUMBER_sieves))
  (af (eF PassesOwn.never rfl (jR (bv 0)) (cJ (i:=3) fG.nd rfl (by first | exact Or.inl rfl | exact Or.inr rfl))
   (ah (ak (i:=2) fG.nd rfl (by first | exact Or.inl rfl | exact Or.inr rfl) (ar aN (ar aG (ar dJ (bv 2) (bv 4)) (dH kC T.b_ord (by kernel_rfl) (ag (bv 3) ae rfl))) (dG T.g_MODULUS_sieves)))))
  (ah (ai (ar aN (bv 2) (bv 1)))))),?_⟩
 kas_types;show zT _ _ _ [some (.str z),some (.int sz),none,none,some (.int fa)] H0;lcg_off;refine Es (z:=z) (fun k σ F=>∃ (o3:Option V),σ = [some (.str z),some (.int sz),some (.int ((z.cps.toList.take k).foldl (pT fa) 7)),o3,some (.int fa)]/\F = H0)
  ⟨none,rfl,rfl⟩ (fun k ch σ F hk me h=>?_) (fun σ F h=>?_)
 ·obtain ⟨o3,rfl,rfl⟩:=h;obtain ⟨pZ,IA⟩:=List.getElem?_eq_some_iff.mp me;have wV:(z.cps.toList.take (k + 1)).foldl (pT fa) 7 = pT fa ((z.cps.toList.take k).foldl (pT fa) 7) ch:=by
   rw [List.take_succ_eq_append_getElem pZ,IA,List.foldl_append]
   rfl
  lcg_off;refine ⟨_,rfl,rfl,?_⟩;lcg_off;refine ⟨some (.str ⟨#[ch]⟩),?_,rfl⟩;rw [wV]
  rfl
 ·obtain ⟨o3,rfl,rfl⟩:=h;rw [List.take_length];lcg_off;exact ⟨rfl,rfl⟩
def tT (K:W.Frag):Sp:=fun vs H Q _=>∃ (z:Str) (sz:Int),vs = [.str z,.int sz]/\0 < sz/\gj H/\∀ l H1,H l = none->SameB dB H H1->gj H1->H1 l = some (.lst ((cy z sz).map V.int))->Q (.ref l) H1
theorem rE:ao ["key","size"] ["key","size"] (aa cq):=⟨rfl,rfl,rfl,by decide +kernel,rfl,by decide +kernel,by decide +kernel⟩
theorem rR (T:Txt K mg) (vO:∀ p ∈ tabs,base.BuiltinsAt mg p) (kIn:K.In base) (N:Fn K mg "places_of" cq ["key","size"] f fd):FnOk P w K mg base cB (2) f fd ["key","size"] (tT K):=by
 obtain ⟨_,_,_,yh,zf,zh⟩:=T.c_probe;have ER:=Bm (P:=P) (w:=w) (base:=base) T vO yh zf zh kIn;obtain ⟨zA,wY,oJ⟩:=T.g_FACTORS;refine N.fu.okB rE (fun vs H Q E h=>?_) (fun bA A outer s H vs Q E hr h=>?_)
 ·obtain ⟨z,sz,rfl,_⟩:=h
  rfl
 ·obtain ⟨z,sz,rfl,hz,ht,q⟩:=h;refine ⟨_,(ah (ai (jh (x:="factor") (ix:=[0,1]) (fv:=["key","size"]) (osc:=aa cq) rfl ⟨rfl,by decide +kernel,by decide +kernel,by rfl,by decide +kernel,by decide +kernel,by decide +kernel⟩ (by rfl) (oY (dG wY)) (fun _ _ _ _=>dA) (fun _ _ _ _=>(EJ rfl rfl rfl rfl rfl (hr.mono (by first | decide | omega):Room 1 _) (bT yh ER (hr.mono (by first | decide | omega)) (ag (bv 0) ae rfl)) (ag (bv 1) (ag (bv 2) ae rfl) rfl)))))),?_⟩
  kas_types;lcg_off;refine ⟨zA,rfl,⟨_,oJ H⟩,?_⟩;refine Eb (xs:=[.int 31,.int 37,.int 41]) (fun i us F=>SameB dB H F/\gj F/\us = ((cy z sz).take i).map V.int/\i <= 3) (by simp [sizeLine_eq]) ⟨SameB.refl,ht,rfl,by decide⟩ (fun i us F h=>⟨oJ F,by rw [h.2.2.1,List.length_map,List.length_take];have:=h.2.2.2;simp [cy];omega⟩) (fun i v us F hv h=>?_) (fun us pu F F1 h sZ sF hF=>?_)
  ·obtain ⟨f1,f2,rfl,_⟩:=h;obtain ⟨fa,El,rfl⟩:∃ fa:Int,([31,37,41]:List Int)[i]? = some fa/\v = .int fa:=by
    have e:([.int 31,.int 37,.int 41]:List V) = ([31,37,41]:List Int).map V.int:=rfl;rw [e,List.getElem?_map] at hv;obtain ⟨fa,h1,h2⟩:=Option.map_eq_some_iff.mp hv;exact ⟨fa,h1,h2.symm⟩
   have hf3:fa = 31 \/ fa = 37 \/ fa = 41:=by simpa using List.mem_of_getElem? El
   have oI:=(List.getElem?_eq_some_iff.mp El).1;have sE:(cy z sz)[i]? = some (numM fa z.cps.toList % sz):=by
    unfold cy;rw [List.getElem?_map,El]
    rfl
   obtain ⟨SV,SU⟩:=List.getElem?_eq_some_iff.mp sE;lcg_off;refine ⟨.int fa,rfl,f2,fun ff c' cc H1 hff qO s1 t1 h1 h2 h3=>?_⟩
   refine ⟨ff,rfl,⟨_,_,_,_,_,_,_,h1⟩,?_⟩;lcg_off;refine ⟨⟨_,_,_,_,_,_,_,h1⟩,yK T hz (by omega) h1 h2 h3 ?_⟩;refine ⟨f1.trans s1,t1,?_,oI⟩;rw [List.take_succ_eq_append_getElem SV,SU,List.map_append]
   rfl
  obtain ⟨f1,f2,rfl,_⟩:=h;obtain ⟨ps,hT⟩:=f2.tbl;refine q pu F1 ?_ (f1.trans (.of sF)) (f2.same sF) (by rw [hF];rfl)
  cases e:H pu with
  | none=>rfl
  | some o =>
   by_cases n:pu = dB
   ·rw [n,hT] at sZ
    cases sZ
   ·rw [f1 _ _ e n] at sZ
    cases sZ
theorem wt (hz:0 < sz) (ht:gj H) (q:∀ l H1,H l = none->SameB dB H H1->gj H1->H1 l = some (.lst ((cy z sz).map V.int))->Q (.ref l) H1):tT K [.str z,.int sz] H Q E:=⟨z,sz,rfl,hz,ht,q⟩
theorem zx (a b:Nat):Builtin.bitOr (a:Int) (b:Int) = ((a ||| b:Nat):Int):=by
 have e1:Builtin.bitNot (Builtin.bitNot (a:Int)) = a:=by unfold Builtin.bitNot;omega
 have e2:Builtin.bitNot (Builtin.bitNot (b:Int)) = b:=by unfold Builtin.bitNot;omega
 have n1:decide (0 <= Builtin.bitNot (a:Int)) = false:=by unfold Builtin.bitNot;simp;omega
 have n2:decide (0 <= Builtin.bitNot (b:Int)) = false:=by unfold Builtin.bitNot;simp;omega
 unfold Builtin.bitOr;rw [Builtin.bitAnd,n1,n2];dsimp only;rw [e1,e2];unfold Builtin.bitNot;simp only [Int.toNat_natCast];omega
end
section
def vK (ks:List Str):Int:=8 * max 1 ((SW.onces ks).length:Int)
def qr (K:W.Frag):Sp:=fun vs H Q _=>∃ (p:Addr) (ks:List Str),vs = [.ref p]/\H p = some (.lst (ks.map V.str))/\ks.length < 1000/\gj H/\∀ t H1,SameB dB H H1->gj H1->H1 t = some (.tup [.int (vK ks),.int (ks.foldl (fC (vK ks)) 0)])->Q (.ref t) H1
theorem dC:ao ["keys","size","bits","key","place"] ["keys"] (aa dm):=⟨rfl,rfl,rfl,by decide +kernel,rfl,by decide +kernel,by decide +kernel⟩
theorem uj (T:Txt K mg) (vO:∀ p ∈ tabs,base.BuiltinsAt mg p) (kIn:K.In base) (N:Fn K mg "sieve_of" dm ["keys"] f fd):FnOk P w K mg base cB (3) f fd ["keys"] (qr K):=by
 obtain ⟨_,_,mr⟩:=T.f_places_of;have vG:=rR (P:=P) (w:=w) (base:=base) T vO kIn mr;refine N.fu.okB dC (fun vs H Q E h=>?_) (fun bA A outer s H vs Q E hr h=>?_)
 ·obtain ⟨p,ks,rfl,_⟩:=h
  rfl
 ·obtain ⟨p,ks,rfl,hp,hl,tok,q⟩:=h;have ol:=SW.onces_le ks;have Cu:(Builtin.Int.intBits 1:Int) = 1:=by decide +kernel
  refine ⟨_,(af (ak (i:=1) dC.nd rfl (by first | exact Or.inl rfl | exact Or.inr rfl) (ar dJ b_int (dH (Mx rfl) T.b_max (by kernel_rfl) (ag b_int (ag (dH IP T.b_len (by kernel_rfl) (ag (yc Co T.b_set (by kernel_rfl) (ag (bv 0) ae rfl)) ae rfl)) ae rfl) rfl))))
  (af (ak (i:=2) dC.nd rfl (by first | exact Or.inl rfl | exact Or.inr rfl) b_int)
  (af (eF PassesOwn.never rfl (d5 (bv 0)) (cJ (i:=3) dC.nd rfl (by first | exact Or.inl rfl | exact Or.inr rfl))
   (ah (eF PassesOwn.never rfl (d5 (bT mr vG (hr.mono (by first | decide | omega)) (ag (bv 3) (ag (bv 1) ae rfl) rfl))) (cJ (i:=4) dC.nd rfl (by first | exact Or.inl rfl | exact Or.inr rfl))
   (ah (ak (i:=2) dC.nd rfl (by first | exact Or.inl rfl | exact Or.inr rfl) (ar Fm (bv 2) (ar xK b_int (bv 4))))))))
  (ah (ai (fJ (ag (bv 1) (ag (bv 2) ae rfl) rfl))))))),?_⟩
  kas_types;lcg_off;refine xF ks (SqL.of hp) (by omega) (fun pl H1 sE s1 h1=>?_);lcg_off;refine Dm _ h1 ?_;lcg_off;obtain ⟨ps,hT⟩:=tok.tbl;have hz:(0:Int) < 8 * max 1 ((SW.onces ks).length:Int):=by omega
  have Jm:8 * max 1 ((SW.onces ks).length:Int) < 10000:=by omega
  rw [show 8 * max 1 ((SW.onces ks).length:Int) = vK ks from rfl] at *;generalize vK ks = sz at *;have FC:=s1 _ _ hp;refine forL (xs:=ks.map V.str) (fun i σ H'=>∃ (o3 o4:Option V),σ = [some (.ref p),some (.int sz),some (.int ((ks.take i).foldl (fC sz) 0)),o3,o4]/\SameB dB H H'/\gj H')
   ⟨none,none,rfl,.of s1,tok.same s1⟩ (fun i σ H' h=>by obtain ⟨_,_,_,a,_⟩:=h;exact SqL.of (a.toN hT _ _ hp (fun _ z=>by cases z))) (fun i x σ H' hi hx h=>?_) (fun σ H' h=>?_)
  ·obtain ⟨o3,o4,rfl,g1,g2⟩:=h;rw [List.getElem?_map] at hx;obtain ⟨z,SA,rfl⟩:=Option.map_eq_some_iff.mp hx;obtain ⟨KR,SD⟩:=List.getElem?_eq_some_iff.mp SA;have BN:(ks.take (i + 1)).foldl (fC sz) 0 = fC sz ((ks.take i).foldl (fC sz) 0) z:=by
    rw [List.take_succ_eq_append_getElem KR,SD,List.foldl_append]
    rfl
   generalize (ks.take i).foldl (fC sz) 0 = b0 at *;lcg_off;refine wt hz g2 (fun l H2 Iy s2 t2 h2=>?_);have BU:∀ q ∈ cy z sz,0 <= q/\q < sz:=fun q hq=>by
    obtain ⟨f,_,rfl⟩:=List.mem_map.mp hq;exact ⟨Int.emod_nonneg _ (by omega),Int.emod_lt_of_pos _ (by omega)⟩
   lcg_off;refine forL (xs:=(cy z sz).map V.int) (fun j σ F=>∃ (o4:Option V),σ = [some (.ref p),some (.int sz),some (.int (((cy z sz).take j).foldl (fun b q=>Builtin.bitOr b (1 * 2 ^ q.toNat)) b0)),some (.str z),o4]/\F = H2)
    ⟨_,rfl,rfl⟩ (fun j σ F h=>by obtain ⟨_,_,rfl⟩:=h;exact SqL.of h2) (fun j x σ F hj hx h=>?_) (fun σ F h=>?_)
   ·obtain ⟨o4,rfl,rfl⟩:=h;rw [List.getElem?_map] at hx;obtain ⟨q,hq,rfl⟩:=Option.map_eq_some_iff.mp hx;obtain ⟨hql,hqe⟩:=List.getElem?_eq_some_iff.mp hq;obtain ⟨q0,q1⟩:=BU q (List.mem_of_getElem? hq);have Td:((cy z sz).take (j + 1)).foldl (fun b q=>Builtin.bitOr b (1 * 2 ^ q.toNat)) b0 = Builtin.bitOr (((cy z sz).take j).foldl (fun b q=>Builtin.bitOr b (1 * 2 ^ q.toNat)) b0) (1 * 2 ^ q.toNat):=by
     rw [List.take_succ_eq_append_getElem hql,hqe,List.foldl_append]
     rfl
    lcg_off;refine ni ⟨q0,by rw [Cu];omega⟩ ?_;lcg_off;refine ⟨some (.int q),?_,rfl⟩;rw [Td]
   ·obtain ⟨o4,rfl,rfl⟩:=h;refine ⟨some (.str z),o4,?_,g1.trans s2,t2⟩;rw [BN,List.length_map,List.take_length]
    rfl
  ·obtain ⟨o3,o4,rfl,g1,g2⟩:=h;rw [List.length_map,List.take_length];lcg_off;rename_i t Ht st ht;exact q t Ht (g1.trans (.of st)) (g2.same st) ht
theorem tZ (ks:List Str) (hp:H p = some (.lst (ks.map V.str))) (hl:ks.length < 1000) (tok:gj H) (q:∀ t H1,SameB dB H H1->gj H1->H1 t = some (.tup [.int (vK ks),.int (ks.foldl (fC (vK ks)) 0)])->Q (.ref t) H1):qr K [.ref p] H Q E:=⟨p,ks,rfl,hp,hl,tok,q⟩
theorem sQ {n:Nat} {f:Int}:vo sz z (n:Int) f = ((n ||| 2 ^ (numM f z.cps.toList % sz).toNat:Nat):Int):=by
 unfold vo;rw [Int.one_mul,show ((2:Int) ^ (numM f z.cps.toList % sz).toNat) = ((2 ^ (numM f z.cps.toList % sz).toNat:Nat):Int) by simp,zx]
theorem y9 {n:Nat}:∃ m:Nat,fC sz (n:Int) z = m/\∀ k,m.testBit k = true ↔ (n.testBit k = true \/ ∃ p ∈ cy z sz,p.toNat = k):=by
 refine ⟨n ||| 2 ^ (numM 31 z.cps.toList % sz).toNat ||| 2 ^ (numM 37 z.cps.toList % sz).toNat ||| 2 ^ (numM 41 z.cps.toList % sz).toNat,?_,fun k=>?_⟩
 ·unfold fC;rw [List.foldl_cons,List.foldl_cons,List.foldl_cons,List.foldl_nil,sQ,sQ,sQ]
 ·simp only [Nat.testBit_or,Nat.testBit_two_pow,Bool.or_eq_true,decide_eq_true_eq,cy,List.map_cons,List.map_nil,List.mem_cons,List.not_mem_nil,or_false]
  constructor
  ·rintro (((h | h) | h) | h)
   ·exact .inl h
   ·exact .inr ⟨_,.inl rfl,h⟩
   ·exact .inr ⟨_,.inr (.inl rfl),h⟩
   ·exact .inr ⟨_,.inr (.inr rfl),h⟩
  ·rintro (h | ⟨p,rfl | rfl | rfl,h⟩)
   ·exact .inl (.inl (.inl h))
   ·exact .inl (.inl (.inr h))
   ·exact .inl (.inr h)
   ·exact .inr h
theorem iS {sz:Int}:∀ (zs:List Str) (n:Nat),∃ m:Nat,zs.foldl (fC sz) (n:Int) = m/\∀ k,m.testBit k = true ↔ (n.testBit k = true \/ ∃ z ∈ zs,∃ p ∈ cy z sz,p.toNat = k)
 | [],n=>⟨n,rfl,fun k=>by simp⟩
 | z :: zs,n=>by
  obtain ⟨m1,a1,a2⟩:=y9 (sz:=sz) (z:=z) (n:=n);obtain ⟨m2,b1,b2⟩:=iS zs m1;refine ⟨m2,by rw [List.foldl_cons,a1,b1],fun k=>?_⟩
  rw [b2,a2];simp only [List.mem_cons,exists_eq_or_imp,or_assoc]
theorem yy {ys:List Str} (h:∀ z,z ∈ zs ↔ z ∈ ys):zs.foldl (fC sz) 0 = ys.foldl (fC sz) 0:=by
 obtain ⟨m,a1,a2⟩:=iS (sz:=sz) zs 0;obtain ⟨n,b1,b2⟩:=iS (sz:=sz) ys 0;have e:m = n:=by
  apply Nat.eq_of_testBit_eq;intro k;rw [Bool.eq_iff_iff,a2,b2];simp only [h]
 have a1':zs.foldl (fC sz) 0 = (m:Int):=a1;have b1':ys.foldl (fC sz) 0 = (n:Int):=b1;rw [a1',b1',e]
theorem nP {ks:List Str} (hp:zs.Pairwise (fun x y=>x.cps.toList < y.cps.toList)) (h:∀ z,z ∈ zs ↔ z ∈ ks) (h0:1 <= ks.length):vK ks = 8 * (zs.length:Int)/\ks.foldl (fC (vK ks)) 0 = qy zs:=by
 have nd:zs.Nodup:=hp.imp fun {a b} h z=>by rw [z] at h;exact absurd h (List.lt_irrefl _)
 have pm:zs.Perm (SW.onces ks):=(List.perm_ext_iff_of_nodup nd (SW.onces_nd ks)).mpr fun z=>by rw [h,SW.onces_mem]
 have hl:=pm.length_eq;have hz:0 < zs.length:=by
  cases ks with
  | nil=>simp at h0
  | cons k r=>exact List.length_pos_of_mem ((h k).mpr List.mem_cons_self)
 have e:vK ks = 8 * (zs.length:Int):=by unfold vK;omega
 refine ⟨e,?_⟩;rw [e,qy];exact (yy h).symm
end
section
def C' (K:W.Frag):Sp:=fun vs H Q _=>∃ v d lo hi,vs = [v,.int lo,.int hi]/\Rep H d v/\E7 d = true/\∀ H',Same H H'->Q (.bl (ik d lo hi)) H'
theorem kX:ao ["thing","fewest","most"] ["thing","fewest","most"] (aa ba):=⟨rfl,rfl,rfl,by decide +kernel,rfl,by decide +kernel,by decide +kernel⟩
theorem gc (T:Txt K mg) (N:Fn K mg "is_plain_text" ba ["thing","fewest","most"] f fd):FnOk P w K mg base cB (1) f fd ["thing","fewest","most"] (C' K):=by
 refine N.fu.okB kX (fun vs H Q E h=>?_) (fun bA A outer s H vs Q E hr h=>?_)
 ·obtain ⟨v,d,lo,hi,rfl,_⟩:=h
  rfl
 ·obtain ⟨v,d,lo,hi,rfl,hd,hz,k⟩:=h;refine ⟨_,(af (aH (cH (bC (dH bP T.b_isinstance (by kernel_rfl) (ag (bv 0) (ag (jg (T:="str") T.b_str (by kernel_rfl)) ae rfl) rfl)) (fun _=>rfl)))
   (ah (ai hW))
   av)
  (af (aH (gM (eJ (aB wH (dH bO T.b_len (by kernel_rfl) (ag (bv 0) ae rfl)) (bv 1) (aw _)) (eE (aB uh (dH bO T.b_len (by kernel_rfl) (ag (bv 0) ae rfl)) (bv 2) (aw _)))))
   (ah (ai hW))
   av)
  (ah (ai (dH (Cp rfl) T.b_all (by kernel_rfl) (ag (jh (x:="sign") (ix:=[]) (fv:=[]) (osc:=aa ba) rfl ⟨rfl,by decide +kernel,by decide +kernel,by rfl,by decide +kernel,by decide +kernel,by decide +kernel⟩ (by rfl) (jR (bv 0)) (fun _ _ _ _=>dA) (fun _ _ _ _=>(yd wI wI (dG T.g_LOWEST_SIGN) (bv 0) (dG T.g_HIGHEST_SIGN)))) ae rfl)))))),?_⟩
  kas_types
  cases d with
  | str z =>
   simp only [Rep] at hd;subst hd;have SF:z.length <= sizeLine:=of_decide_eq_true hz;simp only [ik] at k;lcg_off;refine aF (fun h1=>?_) (fun h1=>?_)
   ·rw [show gA z lo hi = false by unfold gA;rw [decide_eq_false (by omega)];rfl] at k;lcg_off;exact k H (Same.refl H)
   ·lcg_off;refine aF (fun h2=>?_) (fun h2=>?_)
    ·rw [show gA z lo hi = false by unfold gA;rw [decide_eq_false (by omega)];rfl] at k;lcg_off;exact k H (Same.refl H)
    ·lcg_off;refine Rz (fun c=>.bl (dU c)) SF (fun c _ R h=>?_) (fun p H1 hp s hl=>?_)
     ·lcg_off;refine wU (fun h3=>?_) (fun h3=>?_)
      ·have:dU c = decide (c <= 126):=by
        have Lq:decide (([c]:List Nat) < [32]) = false:=h3;rw [wA] at Lq;have h4:=of_decide_eq_false Lq;unfold dU;apply decide_eq_decide.mpr;omega
       lcg_off;rw [this] at h;have e2:(!decide (("~":Str).cps.toList < (⟨#[c]⟩:Str).cps.toList)) = decide (c <= 126):=by
        show (!decide (([126]:List Nat) < [c])) = _;rw [wA]
        by_cases hc:126 < c
        ·rw [decide_eq_true hc,decide_eq_false (by omega)];rfl
        ·rw [decide_eq_false hc,decide_eq_true (by omega)];rfl
       show R (V.bl (!decide (("~":Str).cps.toList < (⟨#[c]⟩:Str).cps.toList))) H;rw [e2];exact h
      ·have:dU c = false:=by
        have Lq:decide (([c]:List Nat) < [32]) = true:=h3;rw [wA] at Lq;have h4:=of_decide_eq_true Lq;unfold dU;apply decide_eq_false;omega
       rw [this] at h;exact h
     ·lcg_off;refine wk (z.cps.toList.map dU) (SqL.of (by rw [hl,List.map_map];rfl)) ?_;rw [show (z.cps.toList.map dU).all id = gA z lo hi by
       unfold gA;rw [decide_eq_true (by omega),Bool.true_and,List.all_map]
       rfl]
      exact k _ s
  | non=>simp only [Rep] at hd;subst hd;lcg_off;exact k H (Same.refl H)
  | bl b=>simp only [Rep] at hd;subst hd;lcg_off;exact k H (Same.refl H)
  | int i=>simp only [Rep] at hd;subst hd;lcg_off;exact k H (Same.refl H)
  | lst ds=>simp only [Rep] at hd;obtain ⟨a,vs,rfl,h1,_⟩:=hd;lcg_off;exact k H (Same.refl H)
  | tup ds=>simp only [Rep] at hd;obtain ⟨a,vs,rfl,h1,_⟩:=hd;lcg_off;exact k H (Same.refl H)
  | dct=>simp only [Rep] at hd;obtain ⟨a,vs,rfl,h1⟩:=hd;lcg_off;exact k H (Same.refl H)
def qt (g:D->Bool):Sp:=fun vs H Q _=>∃ v d,vs = [v]/\Rep H d v/\E7 d = true/\∀ H',Same H H'->Q (.bl (g d)) H'
theorem yD:ao ["thing"] ["thing"] (aa eX):=⟨rfl,rfl,rfl,by decide +kernel,rfl,by decide +kernel,by decide +kernel⟩
theorem yT (T:Txt K mg) (N:Fn K mg "is_key" eX ["thing"] f fd):FnOk P w K mg base cB (2) f fd ["thing"] (qt fun d=>ik d 1 20):=by
 obtain ⟨_,_,cE⟩:=T.f_is_plain_text;have eG:=gc (P:=P) (w:=w) (base:=base) T cE;refine N.fu.okB yD (fun vs H Q E h=>?_) (fun bA A outer s H vs Q E hr h=>?_)
 ·obtain ⟨v,d,rfl,_⟩:=h
  rfl
 ·obtain ⟨v,d,rfl,hd,hz,k⟩:=h;refine ⟨_,(ah (ai (bT cE eG (hr.mono (by first | decide | omega)) (ag (bv 0) (ag b_int (ag (dG T.g_LONGEST_KEY) ae rfl) rfl) rfl)))),?_⟩;kas_types;lcg_off;exact ⟨v,d,1,20,rfl,hd,hz,k⟩
theorem t5:ao ["thing"] ["thing"] (aa dq):=⟨rfl,rfl,rfl,by decide +kernel,rfl,by decide +kernel,by decide +kernel⟩
theorem uo (T:Txt K mg) (N:Fn K mg "is_value" dq ["thing"] f fd):FnOk P w K mg base cB (2) f fd ["thing"] (qt fun d=>ik d 0 40):=by
 obtain ⟨_,_,cE⟩:=T.f_is_plain_text;have eG:=gc (P:=P) (w:=w) (base:=base) T cE;refine N.fu.okB t5 (fun vs H Q E h=>?_) (fun bA A outer s H vs Q E hr h=>?_)
 ·obtain ⟨v,d,rfl,_⟩:=h
  rfl
 ·obtain ⟨v,d,rfl,hd,hz,k⟩:=h;refine ⟨_,(ah (ai (bT cE eG (hr.mono (by first | decide | omega)) (ag (bv 0) (ag b_int (ag (dG T.g_LONGEST_VALUE) ae rfl) rfl) rfl)))),?_⟩;kas_types;lcg_off;exact ⟨v,d,0,40,rfl,hd,hz,k⟩
theorem iX {g:D->Bool} (d:D) (hd:Rep H d v) (hz:E7 d = true) (k:∀ H',Same H H'->Q (.bl (g d)) H'):qt g [v] H Q E:=⟨v,d,rfl,hd,hz,k⟩
def gu:D->Bool
 | .int _=>true
 | _=>false
theorem jB:ao ["thing"] ["thing"] (aa aX):=⟨rfl,rfl,rfl,by decide +kernel,rfl,by decide +kernel,by decide +kernel⟩
theorem jH (T:Txt K mg) (N:Fn K mg "is_whole_number" aX ["thing"] f fd):FnOk P w K mg base cB (1) f fd ["thing"] (qt gu):=by
 refine N.fu.okB jB (fun vs H Q E h=>?_) (fun bA A outer s H vs Q E hr h=>?_)
 ·obtain ⟨v,d,rfl,_⟩:=h
  rfl
 ·obtain ⟨v,d,rfl,hd,hz,k⟩:=h;have k:=k H (Same.refl H);refine ⟨_,(ah (ai (mi (dH bP T.b_isinstance (by kernel_rfl) (ag (bv 0) (ag (jg (T:="int") T.b_int (by kernel_rfl)) ae rfl) rfl)) (kF (FL (dH bP T.b_isinstance (by kernel_rfl) (ag (bv 0) (ag (jg (T:="bool") T.b_bool (by kernel_rfl)) ae rfl) rfl))))))),?_⟩;kas_types
  cases d with
  | int i=>simp only [Rep] at hd;subst hd;lcg_off;exact k
  | non=>simp only [Rep] at hd;subst hd;lcg_off;exact k
  | bl b=>simp only [Rep] at hd;subst hd;lcg_off;exact k
  | str z=>simp only [Rep] at hd;subst hd;lcg_off;exact k
  | lst ds=>simp only [Rep] at hd;obtain ⟨a,vs,rfl,h1,_⟩:=hd;lcg_off;exact k
  | tup ds=>simp only [Rep] at hd;obtain ⟨a,vs,rfl,h1,_⟩:=hd;lcg_off;exact k
  | dct=>simp only [Rep] at hd;obtain ⟨a,vs,rfl,h1⟩:=hd;lcg_off;exact k
theorem t6:ao ["thing"] ["thing"] (aa dt):=⟨rfl,rfl,rfl,by decide +kernel,rfl,by decide +kernel,by decide +kernel⟩
theorem uq (T:Txt K mg) (N:Fn K mg "is_stamp" dt ["thing"] f fd):FnOk P w K mg base cB (2) f fd ["thing"] (qt nK):=by
 obtain ⟨_,_,fK⟩:=T.f_is_whole_number;have kN:=jH (P:=P) (w:=w) (base:=base) T fK;refine N.fu.okB t6 (fun vs H Q E h=>?_) (fun bA A outer s H vs Q E hr h=>?_)
 ·obtain ⟨v,d,rfl,_⟩:=h
  rfl
 ·obtain ⟨v,d,rfl,hd,hz,k⟩:=h;refine ⟨_,(ah (ai (mi (bT fK kN (hr.mono (by first | decide | omega)) (ag (bv 0) ae rfl)) (kF (yd wI wI b_int (bv 0) (dG T.g_GREATEST_STAMP)))))),?_⟩;kas_types;lcg_off;refine iX (g:=gu) d hd hz (fun H1 s1=>?_)
  have k:=k H1 s1
  cases d with
  | int i =>
   simp only [Rep] at hd;subst hd;simp only [gu];lcg_off;refine aF (fun h1=>?_) (fun h1=>?_)
   ·lcg_off;simp only [nK] at k;rw [show decide (i <= 999999999) = decide (1 <= i/\i <= 999999999) from decide_eq_decide.mpr ⟨fun h=>⟨h1,h⟩,fun h=>h.2⟩];exact k
   ·simp only [nK] at k;rw [decide_eq_false (show ¬ (1 <= i/\i <= 999999999) from fun h=>h1 h.1)] at k;exact k
  | non=>simp only [gu];lcg_off;exact k
  | bl b=>simp only [gu];lcg_off;exact k
  | str z=>simp only [gu];lcg_off;exact k
  | lst ds=>simp only [gu];lcg_off;exact k
  | tup ds=>simp only [gu];lcg_off;exact k
  | dct=>simp only [gu];lcg_off;exact k
theorem t7:ao ["thing"] ["thing"] (aa du):=⟨rfl,rfl,rfl,by decide +kernel,rfl,by decide +kernel,by decide +kernel⟩
theorem ur (T:Txt K mg) (N:Fn K mg "is_entry" du ["thing"] f fd):FnOk P w K mg base cB (3) f fd ["thing"] (qt oR):=by
 obtain ⟨_,_,pb⟩:=T.f_is_value;have xk:=uo (P:=P) (w:=w) (base:=base) T pb;obtain ⟨_,_,vA⟩:=T.f_is_key;have CF:=yT (P:=P) (w:=w) (base:=base) T vA;obtain ⟨_,_,pd⟩:=T.f_is_stamp;have xl:=uq (P:=P) (w:=w) (base:=base) T pd;refine N.fu.okB t7 (fun vs H Q E h=>?_) (fun bA A outer s H vs Q E hr h=>?_)
 ·obtain ⟨v,d,rfl,_⟩:=h
  rfl
 ·obtain ⟨v,d,rfl,hd,hz,k⟩:=h;refine ⟨_,(af (aH (gM (eJ (cH (bC (dH bP T.b_isinstance (by kernel_rfl) (ag (bv 0) (ag (jg (T:="tuple") T.b_tuple (by kernel_rfl)) ae rfl) rfl)) (fun _=>rfl))) (eE (aB (d9 (aD hr)) (dH bO T.b_len (by kernel_rfl) (ag (bv 0) ae rfl)) b_int (aw _)))))
   (ah (ai hW))
   av)
  (af (aH (gM (eJ (cH (bC (bT vA CF (hr.mono (by first | decide | omega)) (ag (aI au (bv 0) b_int (fun _ _=>rfl)) ae rfl)) (fun _=>rfl))) (eE (cH (bC (bT pd xl (hr.mono (by first | decide | omega)) (ag (aI au (bv 0) b_int (fun _ _=>rfl)) ae rfl)) (fun _=>rfl))))))
   (ah (ai hW))
   av)
  (ah (ai (Wm (gi lG (aI au (bv 0) b_int (fun _ _=>rfl)) cD (aw _)) (kF (bT pb xk (hr.mono (by first | decide | omega)) (ag (aI au (bv 0) b_int (fun _ _=>rfl)) ae rfl)))))))),?_⟩
  kas_types
  cases d with
  | tup ds =>
   obtain ⟨a,vs,rfl,h1,h2⟩:=hd.tupE;have hl:=h2.length;lcg_off;refine dE (fun e=>?_) (fun e=>?_)
   ·lcg_off;have e1:oR (.tup ds) = false:=by
     match ds,hl with
     | [],_=>rfl
     | [_],_=>rfl
     | [_,_],_=>rfl
     | [_,_,_],hl=>exact absurd (by rw [<- hl];rfl) e
     | _ :: _ :: _ :: _ :: _,_=>rfl
    rw [e1] at k;exact k H (Same.refl H)
   ·have vM:ds.length = 3:=by omega
    match ds,vM with
    | [x,y,z],_ =>
     obtain ⟨vx,_,rfl,hx,h3⟩:=h2.consE;obtain ⟨vy,_,rfl,hy,h4⟩:=h3.consE;obtain ⟨vz,_,rfl,hzz,h5⟩:=h4.consE;obtain rfl:=h5.nilE;simp only [E7,As,Bool.and_eq_true] at hz;obtain ⟨z1,z2,z3,_⟩:=hz;simp only [oR] at k;lcg_off;refine iX x hx z1 (fun H1 s1=>?_)
     lcg_off;refine wU (fun e1=>?_) (fun e1=>?_)
     ·rw [e1,Bool.false_and,Bool.false_and] at k;lcg_off;exact k H1 s1
     ·rw [e1,Bool.true_and] at k;lcg_off;refine iX y (by keq_rows) z2 (fun H2 s2=>?_);lcg_off;refine wU (fun e2=>?_) (fun e2=>?_)
      ·rw [e2,Bool.false_and] at k;lcg_off;exact k H2 (by lcg_sub)
      ·rw [e2,Bool.true_and] at k;lcg_off;rw [hzz.nonI]
       cases z with
       | non =>
        lcg_off;exact k H2 (by lcg_sub)
       | _ =>
        lcg_off;exact iX _ (by keq_rows) z3 (fun H3 s3=>k H3 (by lcg_sub))
  | non=>simp only [Rep] at hd;subst hd;lcg_off;exact k H (Same.refl H)
  | bl b=>simp only [Rep] at hd;subst hd;lcg_off;exact k H (Same.refl H)
  | int i=>simp only [Rep] at hd;subst hd;lcg_off;exact k H (Same.refl H)
  | str i=>simp only [Rep] at hd;subst hd;lcg_off;exact k H (Same.refl H)
  | lst ds=>simp only [Rep] at hd;obtain ⟨a,vs,rfl,h1,_⟩:=hd;lcg_off;exact k H (Same.refl H)
  | dct=>simp only [Rep] at hd;obtain ⟨a,vs,rfl,h1⟩:=hd;lcg_off;exact k H (Same.refl H)
end
section
def Gg:Sp:=fun vs H Q _=>∃ (v:V) (e:Ent),vs = [v]/\Rep H (aK e) v/\∀ p H',Same H H'->H' p = some (.tup [.str (pF e).1,.int (pF e).2])->Q (.ref p) H'
theorem wa:ao ["entry"] ["entry"] (aa dP):=⟨rfl,rfl,rfl,by decide +kernel,rfl,by decide +kernel,by decide +kernel⟩
theorem wD (T:Txt K mg) (N:Fn K mg "rank_of" dP ["entry"] f fd):FnOk P w K mg base cB (1) f fd ["entry"] (Gg):=by
 refine N.fu.okB wa (fun vs H Q E h=>?_) (fun bA A outer s H vs Q E hr h=>?_)
 ·obtain ⟨v,e,rfl,_⟩:=h
  rfl
 ·obtain ⟨v,e,rfl,he,q⟩:=h;obtain ⟨a,x,rfl,ha,hx⟩:=fh he;refine ⟨_,(ah (ai (fJ (ag (aI au (bv 0) b_int (fun _ _=>rfl)) (ag (IW vR (aI au (bv 0) b_int (fun _ _=>rfl))) ae rfl) rfl)))),?_⟩
  kas_types;lcg_off;exact q _ _ (by assumption) (by assumption)
theorem Dk (e f:Ent):lI [.inl e.1,.inr (-e.2.1)] [.inl f.1,.inr (-f.2.1)] = eZ (pF e) (pF f):=by
 unfold eZ pF;simp only [lI]
 by_cases h:e.1 = f.1
 ·rw [if_pos h,if_pos h]
  by_cases h2:-e.2.1 = -f.2.1
  ·rw [if_pos h2];exact (decide_eq_false (by omega)).symm
  ·rw [if_neg h2]
 ·rw [if_neg h,if_neg h]
def xB:Sp:=fun vs H Q _=>∃ (v u:V) (e f:Ent),vs = [v,u]/\Rep H (aK e) v/\Rep H (aK f) u/\∀ H',Same H H'->Q (.bl (eZ (pF e) (pF f))) H'
theorem nR:ao ["one","other"] ["one","other"] (aa cj):=⟨rfl,rfl,rfl,by decide +kernel,rfl,by decide +kernel,by decide +kernel⟩
theorem oo (T:Txt K mg) (N:Fn K mg "comes_ahead" cj ["one","other"] f fd):FnOk P w K mg base cB (2) f fd ["one","other"] (xB):=by
 obtain ⟨_,_,lR⟩:=T.f_rank_of;have rj:=wD (P:=P) (w:=w) (base:=base) T lR;refine N.fu.okB nR (fun vs H Q E h=>?_) (fun bA A outer s H vs Q E hr h=>?_)
 ·obtain ⟨v,u,e,f',rfl,_⟩:=h
  rfl
 ·obtain ⟨v,u,e,f',rfl,he,hf,q⟩:=h;refine ⟨_,(ah (ai (gi (HE (Nat.lt_of_le_of_lt (Nat.le_add_right _ 100) (aD hr))) (bT lR rj (hr.mono (by first | decide | omega)) (ag (bv 0) ae rfl)) (bT lR rj (hr.mono (by first | decide | omega)) (ag (bv 1) ae rfl)) (aw _)))),?_⟩;kas_types;lcg_off;refine ⟨v,e,rfl,he,fun p1 H1 s1 h1=>?_⟩
  lcg_off;refine ⟨u,f',rfl,hf.same s1,fun p2 H2 s2 h2=>?_⟩;refine GI (as:=[.inl e.1,.inr (-e.2.1)]) (bs:=[.inl f'.1,.inr (-f'.2.1)]) (SqT.of (s2 _ _ h1)) (SqT.of h2) trivial ?_;rw [Dk];exact q _ (Same.tr s2 s1)
theorem zy {u:V} (e f:Ent) (he:Rep H (aK e) v) (hf:Rep H (aK f) u) (q:∀ H',Same H H'->Q (.bl (eZ (pF e) (pF f))) H'):xB [v,u] H Q E:=⟨v,u,e,f,rfl,he,hf,q⟩
def j5 (es:List Ent):Int:=vK (es.map (·.1))
def mV (es:List Ent):Int:=(es.map (·.1)).foldl (fC (vK (es.map (·.1)))) 0
def EZ (K:W.Frag):Sp:=fun vs H Q _=>∃ (p:Addr) (xs:List V) (es:List Ent),vs = [.ref p]/\H p = some (.tup xs)/\Reps H (es.map aK) xs/\es.length < 1000/\gj H/\∀ t H1,SameB dB H H1->gj H1->H1 t = some (.tup [.int (j5 es),.int (mV es)])->Q (.ref t) H1
theorem jd:ao ["entries"] ["entries"] (aa aM):=⟨rfl,rfl,rfl,by decide +kernel,rfl,by decide +kernel,by decide +kernel⟩
theorem je (T:Txt K mg) (vO:∀ p ∈ tabs,base.BuiltinsAt mg p) (kIn:K.In base) (N:Fn K mg "sieve_of_entries" aM ["entries"] f fd):FnOk P w K mg base cB (4) f fd ["entries"] (EZ K):=by
 obtain ⟨_,_,o9⟩:=T.f_sieve_of;have xj:=uj (P:=P) (w:=w) (base:=base) T vO kIn o9;refine N.fu.okB jd (fun vs H Q E h=>?_) (fun bA A outer s H vs Q E hr h=>?_)
 ·obtain ⟨p,xs,es,rfl,_⟩:=h
  rfl
 ·obtain ⟨p,xs,es,rfl,hp,en,hz,tok,q⟩:=h;have Ir:=en.length;rw [List.length_map] at Ir;refine ⟨_,(ah (ai (bT o9 xj (hr.mono (by first | decide | omega)) (ag (jh (x:="entry") (ix:=[]) (fv:=[]) (osc:=aa aM) rfl ⟨rfl,by decide +kernel,by decide +kernel,by rfl,by decide +kernel,by decide +kernel,by decide +kernel⟩ (by rfl) (oY (bv 0)) (fun _ _ _ _=>dA) (fun _ _ _ _=>(aI (gG (K:=K) rfl) (bv 0) b_int (fun _ _=>rfl)))) ae rfl)))),?_⟩
  kas_types;lcg_off;refine Eb (xs:=xs) (fun i us F=>F = H/\us = ((es.take i).map (·.1)).map V.str/\i <= es.length) (by rw [<- Ir,sizeLine_eq];omega) ⟨rfl,rfl,Nat.zero_le _⟩ (fun i us F h=>⟨by rw [h.1];exact SqT.of hp,by rw [h.2.1,List.length_map,List.length_map,List.length_take];have:=h.2.2;omega⟩) (fun i v us F hv h=>?_) (fun us pu F F1 h sZ sF hF=>?_)
  ·obtain ⟨rfl,rfl,f3⟩:=h;obtain ⟨e,he,hve⟩:=en.at hv;obtain ⟨oI,xY⟩:=List.getElem?_eq_some_iff.mp he;obtain ⟨c,x,ec,hc,hx⟩:=fh hve;rw [ec];lcg_off;exact ⟨rfl,by rw [List.take_succ_eq_append_getElem oI,xY,List.map_append,List.map_append];rfl,oI⟩
  obtain ⟨rfl,rfl,_⟩:=h;rw [<- Ir,List.take_length] at hF;lcg_off;refine tZ (es.map (·.1)) hF (by rw [List.length_map];exact hz) (tok.same sF) (fun t H1 s1 t1 ht=>?_)
  exact q t H1 ((SameB.of sF).trans s1) t1 ht
theorem Dc (es:List Ent) (hp:H p = some (.tup xs)) (en:Reps H (es.map aK) xs) (hz:es.length < 1000) (tok:gj H) (q:∀ t H1,SameB dB H H1->gj H1->H1 t = some (.tup [.int (j5 es),.int (mV es)])->Q (.ref t) H1):EZ K [.ref p] H Q E:=⟨p,xs,es,rfl,hp,en,hz,tok,q⟩
end
section
def xA:Sp:=fun vs H Q _=>∃ (u v:V) (e:Ent),vs = [u,v]/\Rep H (aK e) u/\Rep H (aK e) v/\Q (.bl true) H
theorem jC:ao ["_law_told","_law_due"] ["_law_told","_law_due"] (aa aY):=⟨rfl,rfl,rfl,by decide +kernel,rfl,by decide +kernel,by decide +kernel⟩
theorem jI (T:Txt K mg) (N:Fn K mg "_law_entry_same" aY ["_law_told","_law_due"] f fd):FnOk P w K mg base cB (1) f fd ["_law_told","_law_due"] (xA):=by
 refine N.fu.okB jC (fun vs H Q E h=>?_) (fun bA A outer s H vs Q E hr h=>?_)
 ·obtain ⟨u,v,e,rfl,_⟩:=h
  rfl
 ·obtain ⟨u,v,e,rfl,h1,h2,q⟩:=h;obtain ⟨a,x,rfl,ha,hx⟩:=fh h1;obtain ⟨b,y,rfl,hb,hy⟩:=fh h2;refine ⟨_,(af (aH (gM (eJ (cH (bC (dH bP T.b_isinstance (by kernel_rfl) (ag (bv 0) (ag (jg (T:="tuple") T.b_tuple (by kernel_rfl)) ae rfl) rfl)) (fun _=>rfl))) (eJ (aB (d9 (aD hr)) (dH bO T.b_len (by kernel_rfl) (ag (bv 0) ae rfl)) b_int (aw _)) (eJ (cH (bC (dH bP T.b_isinstance (by kernel_rfl) (ag (aI au (bv 0) b_int (fun _ _=>rfl)) (ag (jg (T:="str") T.b_str (by kernel_rfl)) ae rfl) rfl)) (fun _=>rfl))) (eE (aB (d9 (aD hr)) (aI au (bv 0) b_int (fun _ _=>rfl)) (aI au (bv 1) b_int (fun _ _=>rfl)) (aw _)))))))
   (ah (ai hW))
   av)
  (af (aH (gM (eJ (bC (dH bP T.b_isinstance (by kernel_rfl) (ag (aI au (bv 0) b_int (fun _ _=>rfl)) (ag (jg (T:="bool") T.b_bool (by kernel_rfl)) ae rfl) rfl)) (fun _=>rfl)) (eJ (cH (bC (dH bP T.b_isinstance (by kernel_rfl) (ag (aI au (bv 0) b_int (fun _ _=>rfl)) (ag (jg (T:="int") T.b_int (by kernel_rfl)) ae rfl) rfl)) (fun _=>rfl))) (eE (aB (d9 (aD hr)) (aI au (bv 0) b_int (fun _ _=>rfl)) (aI au (bv 1) b_int (fun _ _=>rfl)) (aw _))))))
   (ah (ai hW))
   av)
  (af (aH (gM (eJ (aB lG (aI au (bv 1) b_int (fun _ _=>rfl)) cD (aw _)) (eE (aB lG (aI au (bv 0) b_int (fun _ _=>rfl)) cD (aw _)))))
   (ah (ai (mi (gi lG (aI au (bv 1) b_int (fun _ _=>rfl)) cD (aw _)) (kF (gi lG (aI au (bv 0) b_int (fun _ _=>rfl)) cD (aw _))))))
   av)
  (ah (ai (mi (dH bP T.b_isinstance (by kernel_rfl) (ag (aI au (bv 0) b_int (fun _ _=>rfl)) (ag (jg (T:="str") T.b_str (by kernel_rfl)) ae rfl) rfl)) (kF (gi (cZ (aD hr)) (aI au (bv 0) b_int (fun _ _=>rfl)) (aI au (bv 1) b_int (fun _ _=>rfl)) (aw _))))))))),?_⟩
  kas_types;lcg_off;rw [if_neg (by simp)];lcg_off;rw [if_neg (by simp)];lcg_off;rw [if_neg (by simp)];lcg_off
  cases ho:e.2.2 with
  | none =>
   rw [ho] at hx hy;have e1:x = .non:=by simpa only [oD,Rep] using hx
   have e2:y = .non:=by simpa only [oD,Rep] using hy
   subst e1 e2;lcg_off;exact q
  | some z =>
   rw [ho] at hx hy;have e1:x = .str z:=by simpa only [oD,Rep] using hx
   have e2:y = .str z:=by simpa only [oD,Rep] using hy
   subst e1 e2;lcg_off;rw [show decide (z = z) = true by simp];exact q
theorem zo {u:V} (e:Ent) (h1:Rep H (aK e) u) (h2:Rep H (aK e) v) (q:Q (.bl true) H):xA [u,v] H Q E:=⟨u,v,e,rfl,h1,h2,q⟩
theorem KD {ix : List Nat} {te : TE} {tt : TT} {lo : Int} {n : Nat} (W : Nat -> List V -> Hp -> Prop) (hz : n <= sizeLine) (h0 : W 0 [] H) (hl : ∀ i ys H', W i ys H' -> ys.length <= i)
    (hE:∀ i ys H',i < n->W i ys H'->tt (some (.int (lo + i)) :: pick ix σ) H' fun b H4=>if b = true then te (some (.int (lo + i)) :: pick ix σ) H4 fun y H5=>W (i + 1) (ys ++ [y]) H5 else W (i + 1) ys H4)
    (hQ:∀ ys p H' H1,W n ys H'->H' p = none->Same H' H1->H1 p = some (.lst ys)->Q (.ref p) H1):CB (CC lo n) ix σ tt te Q H:=by
 refine ⟨fun i m ys H2=>m = n - i/\i <= n/\W i ys H2,⟨n,by simp,Nat.zero_le _,h0⟩,?_⟩
 rintro i m ys H2 ⟨rfl,hi,w⟩;have e:=hl i ys H2 w
 by_cases eQ:i < n
 ·refine .inr ⟨eQ,by omega,fun x H3 y=>?_⟩;obtain ⟨rfl,rfl⟩:=y;have ex:∀ (zs:List V) (H5:Hp),(∃ m',m' < n - i/\m' = n - (i + 1)/\i + 1 <= n/\W (i + 1) zs H5) = W (i + 1) zs H5:=fun zs H5 =>
   propext ⟨fun ⟨m',_,_,_,h⟩=>h,fun h=>⟨n - (i + 1),by omega,rfl,eQ,h⟩⟩
  simp only [ex];exact hE i ys _ eQ w
 ·have:i = n:=by omega
  subst this;exact .inl ⟨Nat.le_refl _,fun D hD=>hQ ys D H2 _ w hD (bh hD) aC⟩
theorem Eu (h:H p = some (.lst [])) (h':H p' = some (.lst [])) (q:Q (.bl true) H):rK (.ref p) (.ref p') H Q:=by
 refine ⟨.lst [],.lst [],by simp only [Rep];exact ⟨p,[],rfl,h,by simp only [Reps]⟩,by simp only [Rep];exact ⟨p',[],rfl,h',by simp only [Reps]⟩,by simp [D.dep,D.deps],by simp [D.dep,D.deps],?_⟩;rw [eS];exact q
def qu (K:W.Frag):Sp:=fun vs H Q _=>∃ (p p':Addr) (xs ys:List V) (es:List Ent),vs = [.ref p,.ref p']/\(H p = some (.tup xs) \/ H p = some (.lst xs))/\Reps H (es.map aK) xs/\H p' = some (.lst ys)/\Reps H (es.map aK) ys/\es.length < 1000/\∀ H1,Same H H1->Q (.bl true) H1
theorem lh:ao ["_law_told","_law_due"] ["_law_told","_law_due"] (aa bg):=⟨rfl,rfl,rfl,by decide +kernel,rfl,by decide +kernel,by decide +kernel⟩
theorem lF (T:Txt K mg) (N:Fn K mg "_law_all_same" bg ["_law_told","_law_due"] f fd):FnOk P w K mg base cB (2) f fd ["_law_told","_law_due"] (qu K):=by
 obtain ⟨_,_,fL⟩:=T.f__law_entry_same;have kP:=jI (P:=P) (w:=w) (base:=base) T fL;refine N.fu.okB lh (fun vs H Q E h=>?_) (fun bA A outer s H vs Q E hr h=>?_)
 ·obtain ⟨p,p',xs,ys,es,rfl,_⟩:=h
  rfl
 ·obtain ⟨p,p',xs,ys,es,rfl,hp,en,pJ,p9,hz,q⟩:=h;obtain ⟨L,l1,l2,l3⟩:=dz en;obtain ⟨M,m1,m2,m3⟩:=dz p9;have hxl:xs.length = es.length:=by rw [<- l1,<- l2,List.length_map,List.length_map]
  have XO:ys.length = es.length:=by rw [<- m1,<- m2,List.length_map,List.length_map]
  have ixP:∀ {G:Hp} {i:Nat} {v:V} {Q:VK},Same H G->xs[i]? = some v->Q v G->Fh K (.ref p) (.int (i:Int)) G Q:=fun {G i v Q} s e q=>hp.elim (fun h=>AQ (SqT.of (s _ _ h)) (d6 e) q) (fun h=>ig (SqL.of (s _ _ h)) (d6 e) q)
  have Rx:∀ {Q:VK},Q (.int (xs.length:Int)) H->yI K [.ref p] H Q:=fun {Q} q=>hp.elim (fun h=>xG (SqT.of h) q) (fun h=>xH (SqL.of h) q)
  clear hp;refine ⟨_,(af (aH (aB (d9 (aD hr)) (dH bO T.b_len (by kernel_rfl) (ag (bv 0) ae rfl)) (dH bO T.b_len (by kernel_rfl) (ag (bv 1) ae rfl)) (aw _))
   (ah (ai hW))
   av)
  (ah (ai (gi (cZ (aD hr)) (jh (x:="_law_k") (ix:=[0,1]) (fv:=["_law_told","_law_due"]) (osc:=aa bg) rfl ⟨rfl,by decide +kernel,by decide +kernel,by rfl,by decide +kernel,by decide +kernel,by decide +kernel⟩ (by rfl) (ya T.b_range (ag (dH bO T.b_len (by kernel_rfl) (ag (bv 1) ae rfl)) ae rfl)) (fun _ _ _ _=>(IV (cH (bC (bT fL kP (hr.mono (by first | decide | omega)) (ag (aI (gG (K:=K) rfl) (bv 1) (bv 0) (fun _ _=>rfl)) (ag (aI (gG (K:=K) rfl) (bv 2) (bv 0) (fun _ _=>rfl)) ae rfl) rfl)) (fun _=>rfl))))) (fun _ _ _ _=>(bv 0))) (fj ae) (aw _))))),?_⟩
  kas_types;lcg_off;refine Rx ?_;lcg_off;rw [if_neg (by rw [hxl,XO];simp)];lcg_off;rw [show ((ys.length:Int)).toNat = ys.length from Int.toNat_natCast _];refine KD (fun i us F=>Same H F/\us = []) (by rw [XO,sizeLine_eq];omega) ⟨Same.refl _,rfl⟩ (fun i us F h=>by rw [h.2];exact Nat.zero_le _) (fun i us F hi h=>?_) (fun us pu F F1 h sZ sF hF=>?_)
  ·obtain ⟨f1,rfl⟩:=h;have oI:i < es.length:=by omega
   have TB:i < L.length:=by rw [<- l1,List.length_map] at oI;exact oI
   have Tx:i < M.length:=by rw [<- m1,List.length_map] at oI;exact oI
   have e1:es[i]? = some (L[i]).1:=by rw [<- l1,List.getElem?_map,List.getElem?_eq_getElem TB];rfl
   have e2:es[i]? = some (M[i]).1:=by rw [<- m1,List.getElem?_map,List.getElem?_eq_getElem Tx];rfl
   have e3:(M[i]).1 = (L[i]).1:=by rw [e1] at e2;exact (Option.some.inj e2).symm
   have hx:xs[i]? = some (L[i]).2:=by rw [<- l2,List.getElem?_map,List.getElem?_eq_getElem TB];rfl
   have hy:ys[i]? = some (M[i]).2:=by rw [<- m2,List.getElem?_map,List.getElem?_eq_getElem Tx];rfl
   have r1:=(l3 _ (List.getElem_mem TB)).same f1;have r2:=(m3 _ (List.getElem_mem Tx)).same f1;rw [e3] at r2;lcg_off;rw [show (0:Int) + (i:Int) = (i:Int) by omega];refine ixP f1 hx ?_;lcg_off;refine ig (SqL.of (f1 _ _ pJ)) (d6 hy) ?_;lcg_off;refine zo _ r1 r2 ?_;lcg_off;exact ⟨f1,rfl⟩
  obtain ⟨f1,rfl⟩:=h;lcg_off;rename_i pe Fe XZ se he;refine Eu (se _ _ hF) he ?_;exact q _ (Same.tr se (Same.tr sF f1))
theorem vv {ys:List V} (es:List Ent) (hp:H p = some (.tup xs) \/ H p = some (.lst xs)) (en:Reps H (es.map aK) xs) (pJ:H p' = some (.lst ys)) (p9:Reps H (es.map aK) ys) (hz:es.length < 1000) (q:∀ H1,Same H H1->Q (.bl true) H1):qu K [.ref p,.ref p'] H Q E:=⟨p,p',xs,ys,es,rfl,hp,en,pJ,p9,hz,q⟩
end
section
theorem B7 {m' n':Int} (h:H p = some (.tup [.int m,.int n])) (h':H p' = some (.tup [.int m',.int n'])) (q:Q (.bl (decide (m = m'/\n = n'))) H):rK (.ref p) (.ref p') H Q:=by
 refine ⟨.tup [.int m,.int n],.tup [.int m',.int n'],by simp only [Rep,Reps];exact ⟨p,_,rfl,h,_,_,rfl,rfl,_,_,rfl,rfl,rfl⟩,by simp only [Rep,Reps];exact ⟨p',_,rfl,h',_,_,rfl,rfl,_,_,rfl,rfl,rfl⟩,by simp [D.dep,D.deps],by simp [D.dep,D.deps],?_⟩;have e:aE (.tup [.int m,.int n]) (.tup [.int m',.int n']) = decide (m = m'/\n = n'):=by
  simp [aE,d8]
  rfl
 rw [e];exact q
theorem Ku (h:H p = some (.lst [.bl true,.bl true])) (h':H p' = some (.lst [.bl true,.bl true])) (q:Q (.bl false) H):pO (.ref p) (.ref p') H Q:=by
 refine ⟨.lst [.bl true,.bl true],.lst [.bl true,.bl true],by simp only [Rep,Reps];exact ⟨p,_,rfl,h,_,_,rfl,rfl,_,_,rfl,rfl,rfl⟩,by simp only [Rep,Reps];exact ⟨p',_,rfl,h',_,_,rfl,rfl,_,_,rfl,rfl,rfl⟩,by simp [D.dep,D.deps],by simp [D.dep,D.deps],?_⟩;rw [eS];exact q
def kU (K:W.Frag):Sp:=fun vs H Q _=>∃ (r t pu p:Addr) (xs ys:List V) (es:List Ent),vs = [.ref r,.ref p]/\H r = some (.tup [.ref t,.ref pu])/\H t = some (.tup [.int (j5 es),.int (mV es)])/\H pu = some (.tup xs)/\Reps H (es.map aK) xs/\H p = some (.lst ys)/\Reps H (es.map aK) ys/\es.length < 1000/\1 <= es.length/\∀ H1,Same H H1->Q (.bl true) H1
theorem kY:ao ["_law_told","_law_entries"] ["_law_told","_law_entries"] (aa bf):=⟨rfl,rfl,rfl,by decide +kernel,rfl,by decide +kernel,by decide +kernel⟩
theorem lD (T:Txt K mg) (N:Fn K mg "_law_run_same" bf ["_law_told","_law_entries"] f fd):FnOk P w K mg base cB (3) f fd ["_law_told","_law_entries"] (kU K):=by
 obtain ⟨_,_,hU⟩:=T.f__law_all_same;have m9:=lF (P:=P) (w:=w) (base:=base) T hU;obtain ⟨_,_,bE⟩:=T.f__law_sieve;have cY:=fN (P:=P) (w:=w) (base:=base) T bE;refine N.fu.okB kY (fun vs H Q E h=>?_) (fun bA A outer s H vs Q E hr h=>?_)
 ·obtain ⟨r,t,pu,p,xs,ys,es,rfl,_⟩:=h
  rfl
 ·obtain ⟨r,t,pu,p,xs,ys,es,rfl,XY,ht,sZ,en,hp,p9,hz,zc,q⟩:=h;refine ⟨_,(af (aH (gM (eJ (cH (bC (dH bP T.b_isinstance (by kernel_rfl) (ag (bv 0) (ag (jg (T:="tuple") T.b_tuple (by kernel_rfl)) ae rfl) rfl)) (fun _=>rfl))) (eE (aB (d9 (aD hr)) (dH bO T.b_len (by kernel_rfl) (ag (bv 0) ae rfl)) b_int (aw _)))))
   (ah (ai hW))
   av)
  (af (aH (gM (eJ (cH (bC (dH bP T.b_isinstance (by kernel_rfl) (ag (aI au (bv 0) b_int (fun _ _=>rfl)) (ag (jg (T:="tuple") T.b_tuple (by kernel_rfl)) ae rfl) rfl)) (fun _=>rfl))) (eE (cH (bC (dH bP T.b_isinstance (by kernel_rfl) (ag (aI au (bv 0) b_int (fun _ _=>rfl)) (ag (jg (T:="tuple") T.b_tuple (by kernel_rfl)) ae rfl) rfl)) (fun _=>rfl))))))
   (ah (ai hW))
   av)
  (af (aH (aB (d9 (aD hr)) (jh (x:="_law_one") (ix:=[]) (fv:=[]) (osc:=aa bf) rfl ⟨rfl,by decide +kernel,by decide +kernel,by rfl,by decide +kernel,by decide +kernel,by decide +kernel⟩ (by rfl) (oY (aI au (bv 0) b_int (fun _ _=>rfl))) (fun _ _ _ _=>dA) (fun _ _ _ _=>(mi (dH (qW (K:=K) rfl) T.b_isinstance (by kernel_rfl) (ag (bv 0) (ag (jg (T:="int") T.b_int (by kernel_rfl)) ae rfl) rfl)) (kF (FL (dH (qW (K:=K) rfl) T.b_isinstance (by kernel_rfl) (ag (bv 0) (ag (jg (T:="bool") T.b_bool (by kernel_rfl)) ae rfl) rfl))))))) (fj (ag hW (ag hW ae rfl) rfl)) (aw _))
   (ah (ai hW))
   av)
  (ah (ai (mi (gi (cZ (aD hr)) (aI au (bv 0) b_int (fun _ _=>rfl)) (bT bE cY (hr.mono (by first | decide | omega)) (ag (bv 1) ae rfl)) (aw _)) (kF (bT hU m9 (hr.mono (by first | decide | omega)) (ag (aI au (bv 0) b_int (fun _ _=>rfl)) (ag (bv 1) ae rfl) rfl))))))))),?_⟩
  kas_types;lcg_off;rw [if_neg (by simp)];lcg_off;refine Eb (xs:=[.int (j5 es),.int (mV es)]) (fun i us F=>F = H/\us = List.replicate i (.bl true)) (by rw [sizeLine_eq];simp) ⟨rfl,rfl⟩ (fun i us F h=>⟨by rw [h.1];exact SqT.of ht,by rw [h.2,List.length_replicate]⟩) (fun i v us F hv h=>?_) (fun us pw F F1 h hpw sF hF=>?_)
  ·obtain ⟨rfl,rfl⟩:=h;obtain ⟨n,rfl⟩:∃ n:Int,v = .int n:=by
    have:=List.mem_of_getElem? hv;simp only [List.mem_cons,List.not_mem_nil,or_false] at this
    rcases this with rfl | rfl <;> exact ⟨_,rfl⟩
   lcg_off;exact ⟨rfl,by rw [List.replicate_succ'];rfl⟩
  obtain ⟨rfl,rfl⟩:=h;lcg_off;rename_i pe F2 XZ s2 h2;refine Ku (s2 _ _ hF) h2 ?_;have MR:=Same.tr s2 sF;have hrF:=MR _ _ XY;lcg_off;refine qx es (MR _ _ hp) (p9.same MR) hz zc (fun ts H3 zs s3 h3 Jk Jl=>?_)
  have Gu:=Same.tr s3 MR;obtain ⟨e1,e2⟩:=nP (ks:=es.map (·.1)) Jk (fun z=>by rw [Jl,List.mem_map]) (by rw [List.length_map];exact zc)
  refine B7 (Gu _ _ ht) h3 ?_;rw [decide_eq_true (show j5 es = 8 * (zs.length:Int)/\mV es = qy zs from ⟨e1,e2⟩)];have hrG:=Gu _ _ XY;lcg_off;refine vv es (.inl (Gu _ _ sZ)) (en.same Gu) (Gu _ _ hp) (p9.same Gu) hz (fun H4 s4=>?_);exact q H4 (Same.tr s4 Gu)
theorem t8 {t pu:Addr} {ys:List V} (es:List Ent) (hr:H r = some (.tup [.ref t,.ref pu])) (ht:H t = some (.tup [.int (j5 es),.int (mV es)])) (sZ:H pu = some (.tup xs)) (en:Reps H (es.map aK) xs) (hp:H p = some (.lst ys)) (p9:Reps H (es.map aK) ys) (hz:es.length < 1000) (zc:1 <= es.length) (q:∀ H1,Same H H1->Q (.bl true) H1):kU K [.ref r,.ref p] H Q E:=⟨r,t,pu,p,xs,ys,es,rfl,hr,ht,sZ,en,hp,p9,hz,zc,q⟩
end
section
theorem qF (x:Str):Str.empty ++ x = x:=aV (by rw [app_list];rfl)
theorem ap (x y z:Str):x ++ y ++ z = x ++ (y ++ z):=aV (by rw [app_list,app_list,app_list,app_list,List.append_assoc])
theorem kI (x:Str):x ++ Str.ofString "" = x:=aV (by rw [app_list];show _ ++ [] = _;rw [List.append_nil])
theorem rZ:(Str.ofString "\n").length = 1:=by decide +kernel
theorem le_empty:(Str.ofString "").length = 0:=by decide +kernel
theorem cG (n:Nat) (h:n < 2 ^ 64):((n:Nat):Int).natAbs.log2 < 1920:=by
 rw [Int.natAbs_natCast]
 by_cases h0:n = 0
 ·rw [h0];decide
 ·have:=(Nat.log2_lt h0).mpr (Nat.lt_of_lt_of_le h (Nat.pow_le_pow_right (by decide) (show 64 <= 1920 by decide)));exact this
theorem nv {n:Nat} (h:n <= 999999999):(bZ n).length <= 9:=cX (k:=9) (by omega) (by decide)
def Am:Sp:=fun vs H Q _=>∃ n k:Nat,vs = [.int (n:Nat),.int (k:Nat)]/\n < 10 ^ k/\n < 2 ^ 64/\1 <= k/\PadOk (k:Nat) = true/\Q (.str (dS n k)) H
theorem yC:ao ["number","width"] ["number","width"] (aa eW):=⟨rfl,rfl,rfl,by decide +kernel,rfl,by decide +kernel,by decide +kernel⟩
theorem yS (T:Txt K mg) (N:Fn K mg "padded" eW ["number","width"] f fd):FnOk P w K mg base cB (1) f fd ["number","width"] (Am):=by
 refine N.fu.okB yC (fun vs H Q E h=>?_) (fun bA A outer s H vs Q E hr h=>?_)
 ·obtain ⟨n,k,rfl,_⟩:=h
  rfl
 ·obtain ⟨n,k,rfl,hn,Iw,hk,uT,q⟩:=h;refine ⟨_,(ah (ai (Cs (yc mh T.b_str (by kernel_rfl) (ag (bv 0) ae rfl)) (ag (bv 1) ae rfl)))),?_⟩;kas_types;lcg_off;refine ie (cG _ Iw) ?_;refine ⟨rfl,?_⟩;lcg_off;refine AK uT ?_;rw [yi hn hk];exact q
theorem Bi (n k:Nat) (hi:i = (n:Nat)) (hj:j = (k:Nat)) (h1:n < 10 ^ k) (h2:n < 2 ^ 64) (h3:1 <= k) (h4:PadOk (k:Nat) = true) (q:Q (.str (dS n k)) H):Am [.int i,.int j] H Q E:=⟨n,k,by rw [hi,hj],h1,h2,h3,h4,q⟩
def E4:Sp:=fun vs H Q _=>∃ z:Str,vs = [.str z]/\z.length <= 5000/\∀ H',Same H H'->Q (.bl (gH z)) H'
theorem nT:ao ["text"] ["text"] (aa bG):=⟨rfl,rfl,rfl,by decide +kernel,rfl,by decide +kernel,by decide +kernel⟩
theorem oq (T:Txt K mg) (N:Fn K mg "are_figures" bG ["text"] f fd):FnOk P w K mg base cB (1) f fd ["text"] (E4):=by
 refine N.fu.okB nT (fun vs H Q E h=>?_) (fun bA A outer s H vs Q E hr h=>?_)
 ·obtain ⟨z,rfl,_⟩:=h
  rfl
 ·obtain ⟨z,rfl,hz,q⟩:=h;have Sy:z.length <= sizeLine:=by rw [sizeLine_eq];omega
  refine ⟨_,(ah (ai (mi (gi (d9 (aD hr)) (bv 0) b_str (aw _)) (kF (dH (Cp rfl) T.b_all (by kernel_rfl) (ag (jh (x:="sign") (ix:=[]) (fv:=[]) (osc:=aa bG) rfl ⟨rfl,by decide +kernel,by decide +kernel,by rfl,by decide +kernel,by decide +kernel,by decide +kernel⟩ (by rfl) (jR (bv 0)) (fun _ _ _ _=>dA) (fun _ _ _ _=>(gi qC (bv 0) (dG T.g_FIGURES) rfl))) ae rfl)))))),?_⟩
  kas_types;rw [show Str.ofString "0123456789" = FN from rfl];lcg_off;refine dE (fun h1=>?_) (fun h1=>?_)
  ·lcg_off;refine Rz (fun c=>.bl (jo c)) Sy (fun c hc R h=>?_) (fun p H1 hp s1 hl=>?_)
   ·lcg_off;refine ⟨_,_,rfl,rfl,?_⟩;rw [B6];exact h
   lcg_off;refine wk (z.cps.toList.map jo) (SqL.of (by rw [hl,List.map_map];rfl)) ?_;have e:(z.cps.toList.map jo).all id = gH z:=by
    unfold gH;rw [List.all_map,decide_eq_true h1,Bool.true_and]
    rfl
   rw [e];exact q _ s1
  ·have e:gH z = false:=by
    unfold gH;rw [decide_eq_false (fun h=>h h1),Bool.false_and]
   rw [e] at q;exact q _ (Same.refl _)
theorem Et (h:z.length <= 5000) (q:∀ H',Same H H'->Q (.bl (gH z)) H'):E4 [.str z] H Q E:=⟨z,rfl,h,q⟩
def ug:Option Int->V
 | none=>.non
 | some n=>.int n
def CH (least most:Int) (z:Str):Option Int:=if gH z = true/\least <= (L2.numM z:Int)/\(L2.numM z:Int) <= most then some (L2.numM z:Int) else none
def JM:Sp:=fun vs H Q _=>∃ (z:Str) (least most:Int),vs = [.str z,.int least,.int most]/\z.length <= 600/\∀ H',Same H H'->Q (ug (CH least most z)) H'
theorem h7:ao ["text","least","most","number"] ["text","least","most"] (aa cg):=⟨rfl,rfl,rfl,by decide +kernel,rfl,by decide +kernel,by decide +kernel⟩
theorem iy (T:Txt K mg) (N:Fn K mg "read_padded" cg ["text","least","most"] f fd):FnOk P w K mg base cB (2) f fd ["text","least","most"] (JM):=by
 obtain ⟨_,_,ju⟩:=T.f_are_figures;have qg:=oq (P:=P) (w:=w) (base:=base) T ju;refine N.fu.okB h7 (fun vs H Q E h=>?_) (fun bA A outer s H vs Q E hr h=>?_)
 ·obtain ⟨z,least,most,rfl,_⟩:=h
  rfl
 ·obtain ⟨z,least,most,rfl,hz,q⟩:=h;have Sy:z.length <= sizeLine:=by rw [sizeLine_eq];omega
  refine ⟨_,(af (aH (cH (bC (bT ju qg (hr.mono (by first | decide | omega)) (ag (bv 0) ae rfl)) (fun _=>rfl)))
   (ah (ai cD))
   av)
  (af (ak (i:=3) h7.nd rfl (by first | exact Or.inl rfl | exact Or.inr rfl) (yc My T.b_int (by kernel_rfl) (ag (bv 0) ae rfl)))
  (ah (ai (IY (Cq wI wI (bv 1) (bv 3) (bv 2)) (bv 3) cD))))),?_⟩
  kas_types;lcg_off;refine Et (by omega) (fun H1 s1=>?_);lcg_off
  cases hf:gH z with
  | false =>
   rw [show CH least most z = none from if_neg fun h=>by rw [hf] at h;exact absurd h.1 (by decide)] at q
   lcg_off;exact q _ s1
  | true =>
   have hit:=iZ hf (by omega);lcg_off;refine Dn hit (by omega) ?_;lcg_off;refine aF (fun a1=>?_) (fun a1=>?_)
   ·lcg_off;refine aF (fun a2=>?_) (fun a2=>?_)
    ·rw [show CH least most z = some (L2.numM z:Int) from if_pos ⟨hf,a1,a2⟩] at q;lcg_off;exact q _ s1
    ·rw [show CH least most z = none from if_neg fun h=>a2 h.2.2] at q;lcg_off;exact q _ s1
   ·rw [show CH least most z = none from if_neg fun h=>a1 h.2.1] at q;lcg_off;exact q _ s1
theorem wb (h1:z.length <= 600) (q:∀ H',Same H H'->Q (ug (CH least most z)) H'):JM [.str z,.int least,.int most] H Q E:=⟨z,least,most,rfl,h1,q⟩
theorem C6 (z:Str):Txt.startswith z (Str.ofString "0") = true ↔ mj z.cps.toList 0 = some 48:=v5 z "0" 48 (by decide +kernel)
def JN:Sp:=fun vs H Q _=>∃ (z:Str) (least most:Int),vs = [.str z,.int least,.int most]/\z.length <= 5000/\0 <= most/\most.natAbs.log2 < 1920/\(Str.ofString (toString most)).length <= 10/\∀ H',Same H H'->Q (ug (zD least most (Str.ofString (toString most)).length z)) H'
theorem mG:ao ["text","least","most"] ["text","least","most"] (aa bI):=⟨rfl,rfl,rfl,by decide +kernel,rfl,by decide +kernel,by decide +kernel⟩
theorem eC (T:Txt K mg) (N:Fn K mg "read_figures" bI ["text","least","most"] f fd):FnOk P w K mg base cB (3) f fd ["text","least","most"] (JN):=by
 obtain ⟨_,_,de⟩:=T.f_read_padded;have fR:=iy (P:=P) (w:=w) (base:=base) T de;refine N.fu.okB mG (fun vs H Q E h=>?_) (fun bA A outer s H vs Q E hr h=>?_)
 ·obtain ⟨z,least,most,rfl,_⟩:=h
  rfl
 ·obtain ⟨z,least,most,rfl,hz,hm,hm2,hm3,q⟩:=h;have Sy:z.length <= sizeLine:=by rw [sizeLine_eq];omega
  generalize hn:(Str.ofString (toString most)).length = n at *;refine ⟨_,(af (aH (aB uh (dH bO T.b_len (by kernel_rfl) (ag (bv 0) ae rfl)) (dH bO T.b_len (by kernel_rfl) (ag (yc mh T.b_str (by kernel_rfl) (ag (bv 2) ae rfl)) ae rfl)) (aw _))
   (ah (ai cD))
   av)
  (af (aH (gM (jQ (bC (fP (bv 0) (ag b_str ae rfl)) (fun _=>rfl)) (gK (aB (d9 (aD hr)) (bv 0) b_str (aw _)))))
   (ah (ai cD))
   av)
  (ah (ai (bT de fR (hr.mono (by first | decide | omega)) (ag (bv 0) (ag (bv 1) (ag (bv 2) ae rfl) rfl) rfl)))))),?_⟩
  kas_types;lcg_off;refine ie hm2 ?_;lcg_off;refine kh (by rw [hn,sizeLine_eq];omega) ?_;rw [hn];lcg_off;refine aF (fun h1=>?_) (fun h1=>?_)
  ·rw [show zD least most n z = none from if_neg fun h=>by omega] at q;lcg_off;exact q _ (Same.refl _)
  have hzn:z.length <= n:=by omega
  have xX:Txt.startswith z (Str.ofString "0") = true ↔ mj z.cps.toList 0 = some 48:=C6 z;lcg_off;refine ⟨rfl,?_⟩;lcg_off;refine lq ?_;lcg_off;have fin:¬ (mj z.cps.toList 0 = some 48/\z ≠ Str.ofString "0")->zD least most n z = CH least most z:=fun S6=>by
   unfold zD CH
   by_cases hc:gH z = true/\least <= (L2.numM z:Int)/\(L2.numM z:Int) <= most
   ·rw [if_pos hc,if_pos ⟨hzn,hc.1,S6,hc.2⟩]
   ·rw [if_neg hc,if_neg fun h=>hc ⟨h.2.1,h.2.2.2⟩]
  cases hs:Txt.startswith z (Str.ofString "0") with
  | true =>
   lcg_off;refine dE (fun h3=>?_) (fun h3=>?_)
   ·rw [show zD least most n z = none from if_neg fun h=>h.2.2.1 ⟨xX.mp hs,h3⟩] at q;lcg_off;exact q _ (Same.refl _)
   ·rw [fin fun h=>h.2 h3] at q;lcg_off;exact wb (by omega) q
  | false =>
   rw [fin fun h=>by rw [xX.mpr h.1] at hs;cases hs] at q
   lcg_off;exact wb (by omega) q
theorem wg (h1:z.length <= 5000) (h2:0 <= most) (h3:most.natAbs.log2 < 1920) (h4:(Str.ofString (toString most)).length <= 10) (q:∀ H',Same H H'->Q (ug (zD least most (Str.ofString (toString most)).length z)) H'):JN [.str z,.int least,.int most] H Q E:=⟨z,least,most,rfl,h1,h2,h3,h4,q⟩
end
section
def C7 (n:Nat):Sp:=fun vs H Q _=>∃ ds:List Nat,vs = [.int (val ds),.int ds.length]/\1 <= ds.length/\2 * ds.length <= 2 ^ n/\ds.length <= 1000/\okF ds/\Q (.str (sg ds)) H
theorem uX {m n:Nat} (h:m <= 2 ^ n) (h2:2 <= m):2 * (m - m / 2) <= 2 ^ n:=by
 cases n with
 | zero=>simp at h;omega
 | succ n =>
  rw [Nat.pow_succ] at *;omega
theorem fE:ao ["bits","many","half","high","low"] ["bits","many"] (aa dk):=⟨rfl,rfl,rfl,by decide +kernel,rfl,by decide +kernel,by decide +kernel⟩
theorem ui (T:Txt K mg) (N:Fn K mg "signs_of" dk ["bits","many"] f fd):∀ n:Nat,FnOk P w K mg base cB n f fd ["bits","many"] (C7 n):=by
 intro n
 induction n with
 | zero=>exact ⟨fun vs H Q E ⟨ds,_,h1,h2,_⟩=>by omega,fun _ _ _ _ _ _ _ _ _ _ _ _ _ ⟨ds,_,h1,h2,_⟩=>by omega⟩
 | succ n gQ =>
  have fm:=N;refine N.fu.okB fE (fun vs H Q E h=>?_) (fun bA A outer s H vs Q E hr h=>?_)
  ·obtain ⟨ds,rfl,_⟩:=h
   rfl
  ·obtain ⟨ds,rfl,h1,h2,h3,ho,q⟩:=h;refine ⟨_,(af (aH (aB (cZ (aD hr)) (bv 1) b_int (aw _))
   (ah (ai (aI au (dG T.g_SIGNS) (bv 0) (fun _ _=>rfl))))
   av)
  (af (ak (i:=2) fE.nd rfl (by first | exact Or.inl rfl | exact Or.inr rfl) (ar aZ (bv 1) b_int))
  (af (ak (i:=3) fE.nd rfl (by first | exact Or.inl rfl | exact Or.inr rfl) (ar HB (bv 0) (ar dJ b_int (bv 2))))
  (af (ak (i:=4) fE.nd rfl (by first | exact Or.inl rfl | exact Or.inr rfl) (ar jG (bv 0) (ar xK (bv 3) (ar dJ b_int (bv 2)))))
  (ah (ai (ar aG (bT fm gQ (hr.mono (by first | decide | omega)) (ag (bv 4) (ag (bv 2) ae rfl) rfl)) (bT fm gQ (hr.mono (by first | decide | omega)) (ag (bv 3) (ag (ar jG (bv 1) (bv 2)) ae rfl) rfl))))))))),?_⟩
   kas_types;rw [show Str.ofString "abcdefghijklmnop" = mW from rfl];have hsz:mW.length <= sizeLine:=by rw [tY,sizeLine_eq];decide
   lcg_off;refine aF (fun h4=>?_) (fun h4=>?_)
   ·match ds,h4 with
    | [d],_ =>
     have hd:=ho d List.mem_cons_self;lcg_off;refine rH hsz (c:=97 + d) ?_ q;rw [show val [d] = (d:Int) by simp [val]];exact Dg d hd
   ·have mS:2 <= ds.length:=by omega
    have hh:(ds.length:Int) / 2 = ((ds.length / 2:Nat):Int):=by omega
    lcg_off;rw [hh];generalize hk:ds.length / 2 = k at *;have pZ:k <= ds.length:=by omega
    rw [zM,zK ho pZ];lcg_off;refine ni (Ax (ho.drop k) (by rw [List.length_drop];omega) (by omega)) ?_;rw [zM];lcg_off;rw [CS pZ];have hp:=uX (show ds.length <= 2 ^ n by rw [Nat.pow_succ] at h2;omega) mS;refine ⟨ds.take k,by rw [List.length_take,Nat.min_eq_left pZ],by rw [List.length_take];omega,by rw [List.length_take];omega,by rw [List.length_take];omega,ho.take k,?_⟩;lcg_off;refine ⟨ds.drop k,by rw [List.length_drop,show ((ds.length - k:Nat):Int) = (ds.length:Int) - (k:Int) by omega],by rw [List.length_drop];omega,by rw [List.length_drop];omega,by rw [List.length_drop];omega,ho.drop k,?_⟩;refine aS (by rw [dM,dM,List.length_take,List.length_drop,sizeLine_eq];omega) ?_;rw [Ay,List.take_append_drop];exact q
def Gh (n:Nat):Sp:=fun vs H Q _=>∃ ds:List Nat,vs = [.str (sg ds)]/\1 <= ds.length/\2 * ds.length <= 2 ^ n/\ds.length <= 1000/\okF ds/\Q (.int (val ds)) H
theorem nS:ao ["signs","half"] ["signs"] (aa dR):=⟨rfl,rfl,rfl,by decide +kernel,rfl,by decide +kernel,by decide +kernel⟩
theorem wF (T:Txt K mg) (N:Fn K mg "bits_of" dR ["signs"] f fd):∀ n:Nat,FnOk P w K mg base cB n f fd ["signs"] (Gh n):=by
 intro n
 induction n with
 | zero=>exact ⟨fun vs H Q E ⟨ds,_,h1,h2,_⟩=>by omega,fun _ _ _ _ _ _ _ _ _ _ _ _ _ ⟨ds,_,h1,h2,_⟩=>by omega⟩
 | succ n jc =>
  have gq:=N;refine N.fu.okB nS (fun vs H Q E h=>?_) (fun bA A outer s H vs Q E hr h=>?_)
  ·obtain ⟨ds,rfl,_⟩:=h
   rfl
  ·obtain ⟨ds,rfl,h1,h2,h3,ho,q⟩:=h;have KZ:(sg ds).length <= sizeLine:=by rw [dM,sizeLine_eq];omega
   refine ⟨_,(af (aH (aB (cZ (aD hr)) (dH bO T.b_len (by kernel_rfl) (ag (bv 0) ae rfl)) b_int (aw _))
   (ah (ai (Ct (dG T.g_SIGNS) (ag (bv 0) ae rfl))))
   av)
  (af (ak (i:=1) nS.nd rfl (by first | exact Or.inl rfl | exact Or.inr rfl) (ar aZ (dH bO T.b_len (by kernel_rfl) (ag (bv 0) ae rfl)) b_int))
  (ah (ai (ar aG (bT gq jc (hr.mono (by first | decide | omega)) (ag (bS dI (bv 0) cf (bD (bv 1))) ae rfl)) (ar xK (bT gq jc (hr.mono (by first | decide | omega)) (ag (bS dI (bv 0) (bD (bv 1)) cf) ae rfl)) (ar dJ b_int (bv 1)))))))),?_⟩
   kas_types;rw [show Str.ofString "abcdefghijklmnop" = mW from rfl];have hsz:mW.length <= sizeLine:=by rw [tY,sizeLine_eq];decide
   lcg_off;rw [dM];refine aF (fun h4=>?_) (fun h4=>?_)
   ·match ds,h4 with
    | [d],_ =>
     have hd:=ho d List.mem_cons_self;lcg_off;refine ⟨rfl,?_⟩;lcg_off;refine ⟨mW,sg [d],d,[],rfl,rfl,De d hd,?_⟩;rw [show val [d] = (d:Int) by simp [val]] at q;exact q
   ·have mS:2 <= ds.length:=by omega
    have hh:(ds.length:Int) / 2 = ((ds.length / 2:Nat):Int):=by omega
    lcg_off;rw [dM,hh];generalize hk:ds.length / 2 = k at *;have pZ:k <= ds.length:=by omega
    have hp:=uX (show ds.length <= 2 ^ n by rw [Nat.pow_succ] at h2;omega) mS;refine eY KZ ?_;rw [JQ pZ];refine ⟨ds.take k,rfl,by rw [List.length_take];omega,by rw [List.length_take];omega,by rw [List.length_take];omega,ho.take k,?_⟩;lcg_off;refine eY KZ ?_;rw [Dh pZ];refine ⟨ds.drop k,rfl,by rw [List.length_drop];omega,by rw [List.length_drop];omega,by rw [List.length_drop];omega,ho.drop k,?_⟩;lcg_off;refine ni (Ax (ho.drop k) (by rw [List.length_drop];omega) (by omega)) ?_;rw [zM];lcg_off;rw [Int.mul_comm (val (ds.drop k)),<- iN ds k pZ];exact q
def textOf (ds:List Nat):Str:=Str.ofString (toString ((4 * ds.length:Nat):Int)) ++ Str.ofString ":" ++ sg ds
def Sized (ds:List Nat):Prop:=okF ds/\∃ k,1 <= k/\k < 501/\ds.length = 2 * k
theorem Sized.len (h:Sized ds):1 <= ds.length/\ds.length <= 1000:=by
 obtain ⟨_,k,h1,h2,h3⟩:=h;omega
theorem Sized.figs (h:Sized ds):(∀ c ∈ (Str.ofString (toString ((4 * ds.length:Nat):Int))).cps.toList,(!(Builtin.Str.occurrences FN ⟨#[c]⟩ 0 FN.length 1).isEmpty) = true/\c ≠ 58)/\(Str.ofString (toString ((4 * ds.length:Nat):Int))).length <= 6/\1 <= (Str.ofString (toString ((4 * ds.length:Nat):Int))).length/\mj (Str.ofString (toString ((4 * ds.length:Nat):Int))).cps.toList 0 ≠ some 48/\((4 * ds.length:Nat):Int).natAbs.log2 < 1920:=by
 obtain ⟨_,k,h1,h2,h3⟩:=h;rw [show 4 * ds.length = 8 * k by omega];exact L2.figs k h2 h1
def EW:Sp:=fun vs H Q _=>∃ (v:V) (ds:List Nat),vs = [v]/\Rep H (.tup [.int ((4 * ds.length:Nat):Int),.int (val ds)]) v/\Sized ds/\Q (.str (textOf ds)) H
theorem jl:ao ["sieve","size"] ["sieve"] (aa cv):=⟨rfl,rfl,rfl,by decide +kernel,rfl,by decide +kernel,by decide +kernel⟩
theorem pP (T:Txt K mg) (N:Fn K mg "sieve_text" cv ["sieve"] f fd):FnOk P w K mg base cB (12) f fd ["sieve"] (EW):=by
 obtain ⟨_,_,fm⟩:=T.f_signs_of;have gQ:=ui (P:=P) (w:=w) (base:=base) T fm 11;refine N.fu.okB jl (fun vs H Q E h=>?_) (fun bA A outer s H vs Q E hr h=>?_)
 ·obtain ⟨v,ds,rfl,_⟩:=h
  rfl
 ·obtain ⟨v,ds,rfl,hd,hs,q⟩:=h;obtain ⟨l1,l2⟩:=hs.len;obtain ⟨f1,f2,f3,f4,f5⟩:=hs.figs;obtain ⟨a,vs,rfl,h1,h2⟩:=hd.tupE;obtain ⟨vx,_,rfl,hx,h3⟩:=h2.consE;obtain ⟨vy,_,rfl,hy,h4⟩:=h3.consE;obtain rfl:=h4.nilE;simp only [Rep] at hx hy;subst hx hy;refine ⟨_,(af (ak (i:=1) jl.nd rfl (by first | exact Or.inl rfl | exact Or.inr rfl) (aI au (bv 0) b_int (fun _ _=>rfl)))
  (ah (ai (ar aG (oZ (dZ (vq (bv 1)) (dZ b_str oX))) (bT fm gQ (hr.mono (by first | decide | omega)) (ag (aI au (bv 0) b_int (fun _ _=>rfl)) (ag (ar aZ (bv 1) b_int) ae rfl) rfl)))))),?_⟩
  kas_types;lcg_off;have ee:∀ x:Str,Str.empty ++ x = x:=fun x=>aV (by rw [app_list];rfl)
  have lc:(Str.ofString ":").length = 1:=by decide +kernel
  have la:∀ x y:Str,(x ++ y).length = x.length + y.length:=fun x y=>by rw [len_list,app_list,List.length_append,<- len_list,<- len_list]
  refine .inl ⟨_,rfl,f5,_,rfl,?_,?_⟩
  ·rw [ee,sizeLine_eq];omega
  lcg_off;refine ⟨by rw [ee,la,lc,sizeLine_eq];omega,?_⟩;refine ub (by rw [ee,la,lc,sizeLine_eq];omega) ?_;rw [ee];lcg_off;refine ⟨ds,by rw [show ((4 * ds.length:Nat):Int) / 4 = (ds.length:Int) by omega],l1,by omega,l2,hs.1,?_⟩;refine aS (by rw [la,lc,dM,sizeLine_eq];omega) ?_;exact q
theorem C2 (ds:List Nat) (hd:Rep H (.tup [.int ((4 * ds.length:Nat):Int),.int (val ds)]) v) (hs:Sized ds) (q:Q (.str (textOf ds)) H):EW [v] H Q E:=⟨v,ds,rfl,hd,hs,q⟩
def EX:Sp:=fun vs H Q _=>∃ ds:List Nat,vs = [.str (Str.ofString (toString ((4 * ds.length:Nat):Int)))]/\Sized ds/\∀ H',Same H H'->Q (.int ((4 * ds.length:Nat):Int)) H'
theorem HW:(Str.ofString (toString (999992:Int))).length = 6:=by decide +kernel
theorem j6:ao ["text","size"] ["text"] (aa cN):=⟨rfl,rfl,rfl,by decide +kernel,rfl,by decide +kernel,by decide +kernel⟩
theorem rP (T:Txt K mg) (N:Fn K mg "read_size" cN ["text"] f fd):FnOk P w K mg base cB (4) f fd ["text"] (EX):=by
 obtain ⟨_,_,bt⟩:=T.f_read_figures;have cU:=eC (P:=P) (w:=w) (base:=base) T bt;refine N.fu.okB j6 (fun vs H Q E h=>?_) (fun bA A outer s H vs Q E hr h=>?_)
 ·obtain ⟨ds,rfl,_⟩:=h
  rfl
 ·obtain ⟨ds,rfl,hs,q⟩:=h;obtain ⟨l1,l2⟩:=hs.len;obtain ⟨f1,f2,f3,f4,f5⟩:=hs.figs;refine ⟨_,(af (ak (i:=1) j6.nd rfl (by first | exact Or.inl rfl | exact Or.inr rfl) (bT bt cU (hr.mono (by first | decide | omega)) (ag (bv 0) (ag b_int (ag (dG T.g_GREATEST_SIZE) ae rfl) rfl) rfl)))
  (af (aH (aB lG (bv 1) cD (aw _))
   (ah da)
   av)
  (af (aH (aB (d9 (aD hr)) (ar aN (bv 1) b_int) b_int (aw _))
   (ah da)
   av)
  (ah (ai (bv 1)))))),?_⟩
  kas_types;have hit:PySem.intText? (Str.ofString (toString ((4 * ds.length:Nat):Int))) = some ((4 * ds.length:Nat):Int):=W.KIN.num_reads (by omega) (by omega);have h8:4 * ds.length % 8 = 0:=by obtain ⟨_,k,h1,h2,h3⟩:=hs;omega
  generalize hz:Str.ofString (toString ((4 * ds.length:Nat):Int)) = z at *;have Ld:gH z = true:=by
   have hne:z ≠ Str.ofString "":=fun e=>by rw [e] at f3;exact absurd f3 (by decide +kernel)
   unfold gH;rw [decide_eq_true hne,Bool.true_and,List.all_eq_true];intro c hc;rw [<- B6];exact (f1 c hc).1
  have S5:L2.numM z = 4 * ds.length:=by
   have e:=(iZ Ld (by omega)).symm.trans hit;have:=Option.some.inj e;omega
  have hr:zD 8 999992 6 z = some ((4 * ds.length:Nat):Int):=by
   unfold zD;rw [S5];exact if_pos ⟨f2,Ld,fun h=>f4 h.1,by omega,by omega⟩
  lcg_off;refine wg (by omega) (by decide) (by decide +kernel) (by decide +kernel) (fun H1 s1=>?_);rw [HW,hr];simp only [ug];lcg_off;refine dE (fun h1=>absurd (by omega) h1) (fun _=>?_)
  lcg_off;exact q _ s1
theorem Au (ds:List Nat) (hs:Sized ds) (q:∀ H',Same H H'->Q (.int ((4 * ds.length:Nat):Int)) H'):EX [.str (Str.ofString (toString ((4 * ds.length:Nat):Int)))] H Q E:=⟨ds,rfl,hs,q⟩
theorem HX:(Str.ofString ":").length = 1:=by decide +kernel
theorem Sized.part (h:Sized ds):(Txt.partition (textOf ds) (Str.ofString ":")).1 = Str.ofString (toString ((4 * ds.length:Nat):Int))/\(Txt.partition (textOf ds) (Str.ofString ":")).2.2 = sg ds:=by
 obtain ⟨f1,_⟩:=h.figs;have hc:Str.ofString ":" = ⟨#[58]⟩:=by decide +kernel
 have hx:(textOf ds).cps.toList = (Str.ofString (toString ((4 * ds.length:Nat):Int))).cps.toList ++ 58 :: (sg ds).cps.toList:=by
  unfold textOf;rw [app_list,app_list,hc];simp
 rw [hc];obtain ⟨h1,h2⟩:=uf hx (fun hm=>(f1 58 hm).2 rfl)
 rw [h1,h2];exact ⟨aV (by simp),aV (by simp)⟩
theorem Sized.tlen (h:Sized ds):(textOf ds).length <= 2000:=by
 obtain ⟨l1,l2⟩:=h.len;obtain ⟨_,f2,_⟩:=h.figs;unfold textOf;rw [la,la,HX,dM];omega
def EY:Sp:=fun vs H Q _=>∃ ds:List Nat,vs = [.str (textOf ds)]/\Sized ds/\∀ v H',Same H H'->Rep H' (.tup [.int ((4 * ds.length:Nat):Int),.int (val ds)]) v->Q v H'
theorem dX:ao ["text","parts","size","signs"] ["text"] (aa bW):=⟨rfl,rfl,rfl,by decide +kernel,rfl,by decide +kernel,by decide +kernel⟩
theorem pQ (T:Txt K mg) (N:Fn K mg "read_sieve" bW ["text"] f fd):FnOk P w K mg base cB (12) f fd ["text"] (EY):=by
 obtain ⟨_,_,mn⟩:=T.f_read_size;have vE:=rP (P:=P) (w:=w) (base:=base) T mn;obtain ⟨_,_,gq⟩:=T.f_bits_of;have jc:=wF (P:=P) (w:=w) (base:=base) T gq 11;refine N.fu.okB dX (fun vs H Q E h=>?_) (fun bA A outer s H vs Q E hr h=>?_)
 ·obtain ⟨ds,rfl,_⟩:=h
  rfl
 ·obtain ⟨ds,rfl,hs,q⟩:=h;obtain ⟨l1,l2⟩:=hs.len;obtain ⟨p1,p2⟩:=hs.part;have tl:=hs.tlen;have KZ:(sg ds).length <= sizeLine:=by rw [dM,sizeLine_eq];omega
  refine ⟨_,(af (ak (i:=1) dX.nd rfl (by first | exact Or.inl rfl | exact Or.inr rfl) (kD (bv 0) (ag b_str ae rfl)))
  (af (ak (i:=2) dX.nd rfl (by first | exact Or.inl rfl | exact Or.inr rfl) (bT mn vE (hr.mono (by first | decide | omega)) (ag (aI au (bv 1) b_int (fun _ _=>rfl)) ae rfl)))
  (af (ak (i:=3) dX.nd rfl (by first | exact Or.inl rfl | exact Or.inr rfl) (aI au (bv 1) b_int (fun _ _=>rfl)))
  (af (aH (aB (d9 (aD hr)) (dH bO T.b_len (by kernel_rfl) (ag (bv 3) ae rfl)) (ar aZ (bv 2) b_int) (aw _))
   (ah da)
   av)
  (af (aH (cH (bC (dH (Cp rfl) T.b_all (by kernel_rfl) (ag (jh (x:="sign") (ix:=[]) (fv:=[]) (osc:=aa bW) rfl ⟨rfl,by decide +kernel,by decide +kernel,by rfl,by decide +kernel,by decide +kernel,by decide +kernel⟩ (by rfl) (jR (bv 3)) (fun _ _ _ _=>dA) (fun _ _ _ _=>(gi qC (bv 0) (dG T.g_SIGNS) rfl))) ae rfl)) (fun _=>rfl)))
   (ah da)
   av)
  (ah (ai (fJ (ag (bv 2) (ag (bT gq jc (hr.mono (by first | decide | omega)) (ag (bv 3) ae rfl)) ae rfl) rfl))))))))),?_⟩
  kas_types;rw [show Str.ofString "abcdefghijklmnop" = mW from rfl];lcg_off;refine ⟨rfl,?_⟩;lcg_off;refine ⟨_,_,rfl,rfl,by decide +kernel,by rw [sizeLine_eq];omega,fun p H1 s1 hp=>?_⟩;rw [p1,p2] at hp;lcg_off;refine Au ds hs (fun H2 s2=>?_);lcg_off;rw [dM];refine dE (fun h1=>absurd (by omega) h1) (fun _=>?_)
  lcg_off;refine Rz (fun c=>.bl true) KZ (fun c hc R h=>?_) (fun pl H3 BU s3 hl=>?_)
  ·lcg_off;refine ⟨_,_,rfl,rfl,?_⟩;rw [dW] at hc;obtain ⟨d,hd,rfl⟩:=List.mem_map.mp hc;rw [Df d (hs.1 d hd)];exact h
  lcg_off;refine wk ((sg ds).cps.toList.map fun _=>true) (SqL.of (by rw [hl,List.map_map];rfl)) ?_
  rw [show ((sg ds).cps.toList.map fun _=>true).all id = true by rw [List.all_map,List.all_eq_true];intro _ _;rfl]
  lcg_off;refine ⟨ds,rfl,l1,by omega,l2,hs.1,?_⟩;lcg_off;exact q _ _ (by lcg_sub) (by keq_rows)
theorem C3 (ds:List Nat) (hs:Sized ds) (q:∀ v H',Same H H'->Rep H' (.tup [.int ((4 * ds.length:Nat):Int),.int (val ds)]) v->Q v H'):EY [.str (textOf ds)] H Q E:=⟨ds,rfl,hs,q⟩
end
section
def bU:List Str->Str
 | []=>Str.ofString ""
 | z :: zs=>z ++ Str.ofString "\n" ++ bU zs
def hZ (zs:List Str):Nat:=(zs.map fun z=>z.length).sum
theorem join_rows:∀ zs:List Str,Txt.join (Str.ofString "") (zs.map fun z=>z ++ Str.ofString "\n") = bU zs:=by
 intro ds;refine (StrLaws.glued_eq_join _ _).trans ?_
 induction ds with
 | nil=>rfl
 | cons d ds ih =>
  cases ds with
  | nil =>
   show d ++ Str.ofString "\n" = d ++ Str.ofString "\n" ++ Str.ofString "";exact (kI _).symm
  | cons e es =>
   rw [List.map_cons] at ih;rw [List.map_cons,List.map_cons];show (d ++ Str.ofString "\n" ++ Str.ofString "" ++ Str.join (Str.ofString "") ((e ++ Str.ofString "\n") :: es.map fun z=>z ++ Str.ofString "\n"):Str) = d ++ Str.ofString "\n" ++ bU (e :: es)
   rw [ih,kI]
theorem lj:∀ zs:List Str,(bU zs).length = hZ zs + zs.length
 | []=>by decide +kernel
 | z :: zs=>by
  have:=lj zs;simp only [bU,la,rZ,hZ,List.map_cons,List.sum_cons,List.length_cons] at this ⊢;omega
theorem sum_rows:∀ zs:List Str,(List.map (fun x=>x.length) (zs.map fun z=>z ++ Str.ofString "\n")).sum = hZ zs + zs.length
 | []=>rfl
 | z :: zs=>by
  have:=sum_rows zs;simp only [List.map_cons,List.sum_cons,la,rZ,hZ,List.length_cons] at this ⊢;omega
theorem sh:∀ {zs:List Str} {z:Str},z ∈ zs->z.length <= hZ zs
 | y :: zs,z,h=>by
  simp only [hZ,List.map_cons,List.sum_cons]
  rcases List.mem_cons.mp h with e | e
  ·rw [e];omega
  ·have:=sh e;unfold hZ at this;omega
def Ai:Sp:=fun vs H Q _=>∃ p zs,vs = [.ref p]/\H p = some (.lst (zs.map V.str))/\zs.length <= 1000/\hZ zs <= 1000000/\∀ H',Same H H'->Q (.str (bU zs)) H'
theorem mF:ao ["rows"] ["rows"] (aa bq):=⟨rfl,rfl,rfl,by decide +kernel,rfl,by decide +kernel,by decide +kernel⟩
theorem gT (T:Txt K mg) (N:Fn K mg "text_of_rows" bq ["rows"] f fd):FnOk P w K mg base cB (1) f fd ["rows"] (Ai):=by
 refine N.fu.okB mF (fun vs H Q E h=>?_) (fun bA A outer s H vs Q E hr h=>?_)
 ·obtain ⟨p,zs,rfl,_⟩:=h
  rfl
 ·obtain ⟨p,zs,rfl,hp,hl,hs,q⟩:=h;refine ⟨_,(ah (ai (kE b_str (ag (jh (x:="row") (ix:=[]) (fv:=[]) (osc:=aa bq) rfl ⟨rfl,by decide +kernel,by decide +kernel,by rfl,by decide +kernel,by decide +kernel,by decide +kernel⟩ (by rfl) (d5 (bv 0)) (fun _ _ _ _=>dA) (fun _ _ _ _=>(ar (rW (K:=K) rfl) (bv 0) b_str))) ae rfl)))),?_⟩
  kas_types;lcg_off;refine ⟨rfl,?_⟩;lcg_off;refine Bx (xs:=zs.map V.str) (fun i ys H'=>H' = H/\i <= zs.length/\ys = ((zs.take i).map fun z=>z ++ Str.ofString "\n").map V.str) (by rw [sizeLine_eq,List.length_map];omega) ⟨rfl,Nat.zero_le _,rfl⟩ (fun i ys H' h=>⟨h.1 ▸ SqL.of hp,?_⟩) (fun i v ys H' hv h=>?_) (fun ys p' H' H3 h pJ sp vM=>?_)
  ·rw [h.2.2,List.length_map,List.length_map,List.length_take];have:=h.2.1;omega
  ·obtain ⟨rfl,hi,rfl⟩:=h;rw [List.getElem?_map] at hv
   cases hz:zs[i]? with
   | none=>rw [hz] at hv;cases hv
   | some z =>
    rw [hz] at hv;obtain rfl:=Option.some.inj hv;have eQ:i < zs.length:=(List.getElem?_eq_some_iff.mp hz).1;have KR:=sh (List.mem_of_getElem? hz);lcg_off;refine aS (by rw [rZ,sizeLine_eq];omega) ⟨rfl,by omega,?_⟩;rw [List.take_add_one,hz,List.map_append,List.map_append]
    rfl
  ·obtain ⟨rfl,_,rfl⟩:=h;rw [List.length_map,List.take_length] at vM;lcg_off;refine ⟨_,p',zs.map fun z=>z ++ Str.ofString "\n",rfl,rfl,SqL.of vM,?_,?_⟩
   ·rw [le_empty,Nat.mul_zero,Nat.add_zero,sum_rows];omega
   rw [join_rows];exact q _ sp
theorem kb (zs:List Str) (h1:H p = some (.lst (zs.map V.str))) (h2:zs.length <= 1000) (h3:hZ zs <= 1000000) (q:∀ H',Same H H'->Q (.str (bU zs)) H'):Ai [.ref p] H Q E:=⟨p,zs,rfl,h1,h2,h3,q⟩
end
section
def E3:Sp:=fun vs H Q _=>∃ k r:Str,vs = [.str k,.str r]/\k.length <= 20/\r.length <= 40/\Q (.str (dS k.length 2 ++ k ++ r)) H
theorem mH:ao ["key","rest"] ["key","rest"] (aa bK):=⟨rfl,rfl,rfl,by decide +kernel,rfl,by decide +kernel,by decide +kernel⟩
theorem mN (T:Txt K mg) (N:Fn K mg "key_and_rest" bK ["key","rest"] f fd):FnOk P w K mg base cB (2) f fd ["key","rest"] (E3):=by
 obtain ⟨_,_,vw⟩:=T.f_padded;have CD:=yS (P:=P) (w:=w) (base:=base) T vw;refine N.fu.okB mH (fun vs H Q E h=>?_) (fun bA A outer s H vs Q E hr h=>?_)
 ·obtain ⟨k,r,rfl,_⟩:=h
  rfl
 ·obtain ⟨k,r,rfl,hk,CN,q⟩:=h;have Jq:k.length <= sizeLine:=by rw [sizeLine_eq];omega
  refine ⟨_,(ah (ai (ar aG (ar aG (bT vw CD (hr.mono (by first | decide | omega)) (ag (dH bO T.b_len (by kernel_rfl) (ag (bv 0) ae rfl)) (ag (dG T.g_KEY_FIGURES) ae rfl) rfl)) (bv 0)) (bv 1)))),?_⟩;kas_types;lcg_off;refine Bi k.length 2 rfl rfl (by omega) (by omega) (by decide) (by decide +kernel) ?_;lcg_off;refine aS (by rw [aR,sizeLine_eq];omega) ?_;lcg_off;refine aS (by rw [la,aR,sizeLine_eq];omega) ?_;exact q
theorem xR {k r:Str} (h1:k.length <= 20) (h2:r.length <= 40) (q:Q (.str (dS k.length 2 ++ k ++ r)) H):E3 [.str k,.str r] H Q E:=⟨k,r,rfl,h1,h2,q⟩
theorem D3:(Str.ofString "\n").cps.toList = [10]:=by decide +kernel
theorem lY (h:z.cps.toList.all dU = true):10 ∉ z.cps.toList:=fun hc=>absurd (List.all_eq_true.mp h 10 hc) (by decide +kernel)
theorem Bj (n k:Nat):10 ∉ (dS n k).cps.toList:=fun hc=>absurd (List.all_eq_true.mp (DW n k) 10 hc) (by decide +kernel)
theorem eh {y:Str} (h1:10 ∉ x.cps.toList) (h2:10 ∉ y.cps.toList):10 ∉ (x ++ y).cps.toList:=by
 rw [app_list];intro h
 rcases List.mem_append.mp h with h | h
 ·exact h1 h
 ·exact h2 h
theorem Gx {n k:Nat} (h:n < 10 ^ k) (hk:1 <= k) (hl:k <= 600) (h1:least <= (n:Int)) (h2:(n:Int) <= most):CH least most (dS n k) = some (n:Int):=by
 unfold CH;rw [DV h hk hl];exact if_pos ⟨oh n hk,h1,h2⟩
def Aj:Sp:=fun vs H Q _=>∃ k r:Str,vs = [.str (dS k.length 2 ++ k ++ r)]/\1 <= k.length/\k.length <= 20/\r.length <= 40/\∀ p H',Same H H'->H' p = some (.tup [.str k,.str r])->Q (.ref p) H'
theorem cK:ao ["text","length","behind"] ["text"] (aa aO):=⟨rfl,rfl,rfl,by decide +kernel,rfl,by decide +kernel,by decide +kernel⟩
theorem iz (T:Txt K mg) (N:Fn K mg "read_key_and_rest" aO ["text"] f fd):FnOk P w K mg base cB (3) f fd ["text"] (Aj):=by
 obtain ⟨_,_,de⟩:=T.f_read_padded;have fR:=iy (P:=P) (w:=w) (base:=base) T de;refine N.fu.okB cK (fun vs H Q E h=>?_) (fun bA A outer s H vs Q E hr h=>?_)
 ·obtain ⟨k,r,rfl,_⟩:=h
  rfl
 ·obtain ⟨k,r,rfl,wV,uT,CN,q⟩:=h;have Jq:(dS k.length 2 ++ k ++ r).length <= sizeLine:=by rw [la,la,aR,sizeLine_eq];omega
  have pZ:(dS k.length 2 ++ k ++ r).length = 2 + k.length + r.length:=by rw [la,la,aR]
  refine ⟨_,(af (ak (i:=1) cK.nd rfl (by first | exact Or.inl rfl | exact Or.inr rfl) (bT de fR (hr.mono (by first | decide | omega)) (ag (bS dI (bv 0) cf (bD (dG T.g_KEY_FIGURES))) (ag b_int (ag (dG T.g_LONGEST_KEY) ae rfl) rfl) rfl)))
  (af (aH (aB lG (bv 1) cD (aw _))
   (ah (ai cD))
   av)
  (af (ak (i:=2) cK.nd rfl (by first | exact Or.inl rfl | exact Or.inr rfl) (ar aG (dG T.g_KEY_FIGURES) (bv 1)))
  (af (aH (aB wH (dH bO T.b_len (by kernel_rfl) (ag (bv 0) ae rfl)) (bv 2) (aw _))
   (ah (ai cD))
   av)
  (ah (ai (fJ (ag (bS dI (bv 0) (bD (dG T.g_KEY_FIGURES)) (bD (bv 2))) (ag (bS dI (bv 0) (bD (bv 2)) cf) ae rfl) rfl)))))))),?_⟩
  kas_types;lcg_off;refine eY Jq ?_;rw [ap,nL (dS k.length 2) (k ++ r) (by rw [aR];rfl)];lcg_off;refine wb (by rw [aR];decide) (fun H1 s1=>?_);rw [Gx (n:=k.length) (k:=2) (by omega) (by decide) (by decide) (by omega) (by omega)];simp only [ug];lcg_off;rw [<- ap];refine kh Jq ?_;rw [pZ];lcg_off;refine aF (fun h=>by omega) (fun _=>?_);lcg_off;refine eY Jq ?_;rw [ap,yu (dS k.length 2) k r (by rw [aR];rfl) (by rw [aR];omega)];lcg_off;refine eY (by rw [<- ap];exact Jq) ?_;rw [<- ap,jy (dS k.length 2 ++ k) r (by rw [la,aR];omega)];lcg_off;exact q _ _ (by lcg_sub) (by assumption)
theorem AF (k r:Str) (hz:z = dS k.length 2 ++ k ++ r) (h1:1 <= k.length) (h2:k.length <= 20) (h3:r.length <= 40) (q:∀ p H',Same H H'->H' p = some (.tup [.str k,.str r])->Q (.ref p) H'):Aj [.str z] H Q E:=⟨k,r,by rw [hz],h1,h2,h3,q⟩
theorem qz:∀ zs:List Str,(bU zs).cps.toList = qR 10 (zs.map fun z=>z.cps.toList)
 | []=>rfl
 | z :: zs=>by
  show (z ++ Str.ofString "\n" ++ bU zs).cps.toList = z.cps.toList ++ 10 :: qR 10 (zs.map fun z=>z.cps.toList)
  rw [app_list,app_list,D3,qz zs,List.append_assoc]
  rfl
theorem wc (h:∀ z ∈ zs,10 ∉ z.cps.toList):Txt.split (bU zs) (Str.ofString "\n") = zs ++ [Str.ofString ""]:=by
 rw [show Str.ofString "\n" = ⟨#[10]⟩ by decide +kernel];exact v7 h (qz zs)
def xr:Sp:=fun vs H Q _=>∃ zs:List Str,vs = [.str (bU zs)]/\(∀ z ∈ zs,10 ∉ z.cps.toList)/\(bU zs).length <= 100000/\∀ p H',H p = none->Same H H'->H' p = some (.lst (zs.map V.str))->Q (.ref p) H'
theorem v9:ao ["text"] ["text"] (aa dO):=⟨rfl,rfl,rfl,by decide +kernel,rfl,by decide +kernel,by decide +kernel⟩
theorem wC (T:Txt K mg) (N:Fn K mg "rows_of" dO ["text"] f fd):FnOk P w K mg base cB (1) f fd ["text"] (xr):=by
 refine N.fu.okB v9 (fun vs H Q E h=>?_) (fun bA A outer s H vs Q E hr h=>?_)
 ·obtain ⟨zs,rfl,_⟩:=h
  rfl
 ·obtain ⟨zs,rfl,hok,hl,q⟩:=h;refine ⟨_,(ah (ai (bS dI (bm_split (bv 0) (ag b_str ae rfl)) cf (bD (IW vR b_int))))),?_⟩;kas_types;lcg_off;refine ⟨rfl,?_⟩;lcg_off;refine AL (by decide +kernel) (by rw [sizeLine_eq];omega) (fun p1 H1 FC s1 CO=>?_)
  rw [wc hok,List.map_append] at CO;lcg_off;refine AN (SqL.of CO) (fun p2 H2 pI s2 mS=>?_);rw [show ([Str.ofString ""].map V.str) = [V.str (Str.ofString "")] from rfl,zt] at mS;lcg_off;exact q _ _ (Same.free s1 pI) (s1.trans s2) mS
theorem yE (zs:List Str) (hz:z = bU zs) (h1:∀ z ∈ zs,10 ∉ z.cps.toList) (h2:(bU zs).length <= 100000) (q:∀ p H',H p = none->Same H H'->H' p = some (.lst (zs.map V.str))->Q (.ref p) H'):xr [.str z] H Q E:=⟨zs,by rw [hz],h1,h2,q⟩
def xt (K:W.Frag):Sp:=fun vs H Q _=>∃ (p:Addr) (zs:List Str) (k:Nat) (z:Str),vs = [.ref p,.int (k:Int)]/\H p = some (.lst (zs.map V.str))/\1 <= k/\zs[k - 1]? = some z/\Q (.str z) H
theorem yB:ao ["rows","line"] ["rows","line"] (aa eV):=⟨rfl,rfl,rfl,by decide +kernel,rfl,by decide +kernel,by decide +kernel⟩
theorem qD (T:Txt K mg) (N:Fn K mg "row_at" eV ["rows","line"] f fd):FnOk P w K mg base cB (1) f fd ["rows","line"] (xt K):=by
 refine N.fu.okB yB (fun vs H Q E h=>?_) (fun bA A outer s H vs Q E hr h=>?_)
 ·obtain ⟨p,zs,k,z,rfl,_⟩:=h
  rfl
 ·obtain ⟨p,zs,k,z,rfl,hp,hk,hz,q⟩:=h;have pZ:=(List.getElem?_eq_some_iff.mp hz).1;refine ⟨_,(ah (ai (IY (aB wI (bv 1) (dH bO T.b_len (by kernel_rfl) (ag (bv 0) ae rfl)) (aw _)) (aI au (bv 0) (ar jG (bv 1) b_int) (fun _ _=>rfl)) b_str))),?_⟩
  kas_types;lcg_off;refine aF (fun _=>?_) (fun h=>absurd ?_ h)
  ·lcg_off;refine ig (SqL.of hp) (v:=.str z) ?_ ?_
   ·rw [show (k:Int) - 1 = ((k - 1:Nat):Int) by omega];exact d6 (by rw [List.getElem?_map,hz];rfl)
   ·lcg_off;exact q
  ·rw [List.length_map];omega
theorem ll (zs:List Str) (k:Nat) (z:Str) (hi:i = (k:Int)) (hp:H p = some (.lst (zs.map V.str))) (hk:1 <= k) (hz:zs[k - 1]? = some z) (q:Q (.str z) H):xt K [.ref p,.int i] H Q E:=⟨p,zs,k,z,by rw [hi],hp,hk,hz,q⟩
end
section
def mU (n:Int) (c:Nat):Int:=(n * 31 + (c:Int)) % 9973
def zv (z:Str):Int:=z.cps.toList.foldl mU 7
def E6:Sp:=fun vs H Q _=>∃ z:Str,vs = [.str z]/\Q (.int (zv z)) H
theorem fH:ao ["text","number","sign"] ["text"] (aa dv):=⟨rfl,rfl,rfl,by decide +kernel,rfl,by decide +kernel,by decide +kernel⟩
theorem lX (T:Txt K mg) (N:Fn K mg "check_of" dv ["text"] f fd):FnOk P w K mg base cB (1) f fd ["text"] (E6):=by
 refine N.fu.okB fH (fun vs H Q E h=>?_) (fun bA A outer s H vs Q E hr h=>?_)
 ·obtain ⟨z,rfl,_⟩:=h
  rfl
 ·obtain ⟨z,rfl,q⟩:=h;refine ⟨_,(af (ak (i:=1) fH.nd rfl (by first | exact Or.inl rfl | exact Or.inr rfl) (dG T.g_FIRST_NUMBER_runfiles))
  (af (eF PassesOwn.never rfl (jR (bv 0)) (cJ (i:=2) fH.nd rfl (by first | exact Or.inl rfl | exact Or.inr rfl))
   (ah (ak (i:=1) fH.nd rfl (by first | exact Or.inl rfl | exact Or.inr rfl) (ar aN (ar aG (ar dJ (bv 1) (dG T.g_FACTOR)) (dH kC T.b_ord (by kernel_rfl) (ag (bv 2) ae rfl))) (dG T.g_MODULUS_runfiles)))))
  (ah (ai (bv 1))))),?_⟩
  kas_types;lcg_off;refine Es (z:=z) (fun k σ F=>∃ (o3:Option V),σ = [some (.str z),some (.int ((z.cps.toList.take k).foldl mU 7)),o3]/\F = H)
   ⟨none,rfl,rfl⟩ (fun k ch σ F hk me h=>?_) (fun σ F h=>?_)
  ·obtain ⟨o3,rfl,rfl⟩:=h;obtain ⟨pZ,IA⟩:=List.getElem?_eq_some_iff.mp me;have wV:(z.cps.toList.take (k + 1)).foldl mU 7 = mU ((z.cps.toList.take k).foldl mU 7) ch:=by
    rw [List.take_succ_eq_append_getElem pZ,IA,List.foldl_append]
    rfl
   lcg_off;refine ⟨_,rfl,rfl,?_⟩;lcg_off;refine ⟨some (.str ⟨#[ch]⟩),?_,rfl⟩;rw [wV]
   rfl
  ·obtain ⟨o3,rfl,rfl⟩:=h;rw [List.take_length];lcg_off;exact q
theorem dY:ao ["_law_text","_law_number","_law_sign"] ["_law_text"] (aa cx):=⟨rfl,rfl,rfl,by decide +kernel,rfl,by decide +kernel,by decide +kernel⟩
theorem jn (T:Txt K mg) (N:Fn K mg "_law_check" cx ["_law_text"] f fd):FnOk P w K mg base cB (1) f fd ["_law_text"] (E6):=by
 refine N.fu.okB dY (fun vs H Q E h=>?_) (fun bA A outer s H vs Q E hr h=>?_)
 ·obtain ⟨z,rfl,_⟩:=h
  rfl
 ·obtain ⟨z,rfl,q⟩:=h;refine ⟨_,(af (ak (i:=1) dY.nd rfl (by first | exact Or.inl rfl | exact Or.inr rfl) b_int)
  (af (eF PassesOwn.never rfl (jR (bv 0)) (cJ (i:=2) dY.nd rfl (by first | exact Or.inl rfl | exact Or.inr rfl))
   (ah (ak (i:=1) dY.nd rfl (by first | exact Or.inl rfl | exact Or.inr rfl) (ar aN (ar aG (ar dJ (bv 1) b_int) (dH kC T.b_ord (by kernel_rfl) (ag (bv 2) ae rfl))) b_int))))
  (ah (ai (bv 1))))),?_⟩
  kas_types;lcg_off;refine Es (z:=z) (fun k σ F=>∃ (o3:Option V),σ = [some (.str z),some (.int ((z.cps.toList.take k).foldl mU 7)),o3]/\F = H)
   ⟨none,rfl,rfl⟩ (fun k ch σ F hk me h=>?_) (fun σ F h=>?_)
  ·obtain ⟨o3,rfl,rfl⟩:=h;obtain ⟨pZ,IA⟩:=List.getElem?_eq_some_iff.mp me;have wV:(z.cps.toList.take (k + 1)).foldl mU 7 = mU ((z.cps.toList.take k).foldl mU 7) ch:=by
    rw [List.take_succ_eq_append_getElem pZ,IA,List.foldl_append]
    rfl
   lcg_off;refine ⟨_,rfl,rfl,?_⟩;lcg_off;refine ⟨some (.str ⟨#[ch]⟩),?_,rfl⟩;rw [wV]
   rfl
  ·obtain ⟨o3,rfl,rfl⟩:=h;rw [List.take_length];lcg_off;exact q
theorem fold_lt:∀ (cs:List Nat) (n:Int),0 <= n/\n < 9973->0 <= cs.foldl mU n/\cs.foldl mU n < 9973
 | [],_,h=>h
 | c :: cs,n,h=>fold_lt cs _ (by unfold mU;omega)
theorem sN (z:Str):0 <= zv z/\zv z < 9973:=fold_lt _ _ (by decide)
theorem bY (n:Nat):Str.ofString (toString (n:Int)) = bZ n:=rfl
def gI (z:Str):Str:=Str.ofString "end " ++ bZ (zv z).toNat
theorem km:(Str.ofString "end ").length = 4:=by decide +kernel
def JP:Sp:=fun vs H Q _=>∃ z:Str,vs = [.str z]/\Q (.str (gI z)) H
theorem nQ:ao ["ahead","check"] ["ahead"] (aa dQ):=⟨rfl,rfl,rfl,by decide +kernel,rfl,by decide +kernel,by decide +kernel⟩
theorem om (T:Txt K mg) (N:Fn K mg "end_row" dQ ["ahead"] f fd):FnOk P w K mg base cB (2) f fd ["ahead"] (JP):=by
 obtain ⟨_,_,fz⟩:=T.f_check_of;have jW:=lX (P:=P) (w:=w) (base:=base) T fz;refine N.fu.okB nQ (fun vs H Q E h=>?_) (fun bA A outer s H vs Q E hr h=>?_)
 ·obtain ⟨z,rfl,_⟩:=h
  rfl
 ·obtain ⟨z,rfl,q⟩:=h;obtain ⟨c1,c2⟩:=sN z;obtain ⟨n,hn⟩:=Int.eq_ofNat_of_zero_le c1;have hl:=cX (n:=n) (k:=4) (by omega) (by decide);unfold gI at q;rw [hn] at q;refine ⟨_,(af (ak (i:=1) nQ.nd rfl (by first | exact Or.inl rfl | exact Or.inr rfl) (bT fz jW (hr.mono (by first | decide | omega)) (ag (bv 0) ae rfl)))
  (ah (ai (oZ (dZ b_str (dZ (vq (bv 1)) oX)))))),?_⟩
  kas_types;lcg_off;refine ⟨z,rfl,?_⟩;rw [hn];lcg_off;rw [qF];refine ⟨by rw [km,sizeLine_eq];decide,?_⟩;lcg_off;refine .inl ⟨_,rfl,cG _ (by omega),_,rfl,by rw [bY,la,km,sizeLine_eq];omega,?_⟩;rw [bY];refine ub (by rw [la,km,sizeLine_eq];omega) ?_;exact q
def yj:Option Str->Str
 | none=>Str.ofString ""
 | some v=>v
def yx:Option Str->Str
 | none=>Str.ofString " - "
 | some _=>Str.ofString " + "
def fZ (e:Ent):Str:=bZ e.2.1.toNat ++ yx e.2.2 ++ (dS e.1.length 2 ++ e.1 ++ yj e.2.2)
theorem Av:∀ o:Option Str,(yx o).length = 3
 | none=>by decide +kernel
 | some _=>show (Str.ofString " + ").length = 3 by decide +kernel
theorem lJ:(Str.ofString " - ").length = 3:=by decide +kernel
theorem jK:(Str.ofString " + ").length = 3:=by decide +kernel
theorem jX {o:Option Str} (h:PL o):(yj o).length <= 40:=by
 cases o with
 | none=>exact Nat.zero_le _
 | some v=>exact h.1
def v8:Sp:=fun vs H Q _=>∃ (v:V) (e:Ent),vs = [v]/\Rep H (aK e) v/\wG e/\Q (.str (fZ e)) H
theorem j8:ao ["entry","stamp"] ["entry"] (aa cP):=⟨rfl,rfl,rfl,by decide +kernel,rfl,by decide +kernel,by decide +kernel⟩
theorem rS (T:Txt K mg) (N:Fn K mg "entry_row" cP ["entry"] f fd):FnOk P w K mg base cB (3) f fd ["entry"] (v8):=by
 obtain ⟨_,_,fw⟩:=T.f_key_and_rest;have iL:=mN (P:=P) (w:=w) (base:=base) T fw;refine N.fu.okB j8 (fun vs H Q E h=>?_) (fun bA A outer s H vs Q E hr h=>?_)
 ·obtain ⟨v,e,rfl,_⟩:=h
  rfl
 ·obtain ⟨v,⟨k,i,o⟩,rfl,hd,⟨hk,⟨i1,i2⟩,ho⟩,q⟩:=h;obtain ⟨a,x,rfl,ha,hx⟩:=fh hd;dsimp only at *;obtain ⟨n,rfl⟩:=Int.eq_ofNat_of_zero_le (show 0 <= i by omega);have hn:=nv (n:=n) (by omega);have hv:=jX ho;have pZ:=hk.2.1;change Q (.str (bZ n ++ yx o ++ (dS k.length 2 ++ k ++ yj o))) H at q;refine ⟨_,(af (ak (i:=1) j8.nd rfl (by first | exact Or.inl rfl | exact Or.inr rfl) (aI au (bv 0) b_int (fun _ _=>rfl)))
  (af (aH (aB lG (aI au (bv 0) b_int (fun _ _=>rfl)) cD (aw _))
   (ah (ai (ar aG (oZ (dZ (vq (bv 1)) (dZ b_str oX))) (bT fw iL (hr.mono (by first | decide | omega)) (ag (aI au (bv 0) b_int (fun _ _=>rfl)) (ag b_str ae rfl) rfl)))))
   av)
  (ah (ai (ar aG (oZ (dZ (vq (bv 1)) (dZ b_str oX))) (bT fw iL (hr.mono (by first | decide | omega)) (ag (aI au (bv 0) b_int (fun _ _=>rfl)) (ag (aI au (bv 0) b_int (fun _ _=>rfl)) ae rfl) rfl))))))),?_⟩
  kas_types;lcg_off
  cases o with
  | none =>
   obtain rfl:x = .non:=by simpa only [oD,Rep] using hx
   lcg_off;refine .inl ⟨_,rfl,cG _ (by omega),_,rfl,by rw [qF,bY,sizeLine_eq];omega,?_⟩;rw [qF,bY];lcg_off;refine ⟨by rw [la,lJ,sizeLine_eq];omega,?_⟩;refine ub (by rw [la,lJ,sizeLine_eq];omega) ?_;lcg_off;refine xR (by omega) (by decide +kernel) ?_;refine aS (by rw [la,la,la,aR,lJ,le_empty,sizeLine_eq];omega) ?_;exact q
  | some z =>
   obtain rfl:x = .str z:=by simpa only [oD,Rep] using hx
   lcg_off;refine .inl ⟨_,rfl,cG _ (by omega),_,rfl,by rw [qF,bY,sizeLine_eq];omega,?_⟩;rw [qF,bY];lcg_off;refine ⟨by rw [la,jK,sizeLine_eq];omega,?_⟩;refine ub (by rw [la,jK,sizeLine_eq];omega) ?_;lcg_off;refine xR (by omega) hv ?_;change z.length <= 40 at hv;refine aS (by rw [la,la,la,aR,jK,sizeLine_eq];omega) ?_;exact q
theorem DX {n:Nat} (h:n < 100):dS n 2 = if (bZ n).length = 1 then Str.ofString "0" ++ bZ n else bZ n:=by
 have h1:=kl (n:=n) (k:=2) h (by decide);have h2:=cX (n:=n) (k:=2) h (by decide);have h3:1 <= (bZ n).length:=by
  rw [len_list];exact List.length_pos_iff.mpr (nu n)
 refine aV ?_;show hV n 2 = _;rw [h1,bY]
 by_cases h4:(bZ n).length = 1
 ·rw [if_pos h4,h4,app_list]
  rfl
 ·rw [if_neg h4,show (bZ n).length = 2 by omega]
  rfl
theorem ic:ao ["_law_entry","_law_size"] ["_law_entry"] (aa dw):=⟨rfl,rfl,rfl,by decide +kernel,rfl,by decide +kernel,by decide +kernel⟩
theorem uu (T:Txt K mg) (N:Fn K mg "_law_row" dw ["_law_entry"] f fd):FnOk P w K mg base cB (1) f fd ["_law_entry"] (v8):=by
 refine N.fu.okB ic (fun vs H Q E h=>?_) (fun bA A outer s H vs Q E hr h=>?_)
 ·obtain ⟨v,e,rfl,_⟩:=h
  rfl
 ·obtain ⟨v,⟨k,i,o⟩,rfl,hd,⟨hk,⟨i1,i2⟩,ho⟩,q⟩:=h;obtain ⟨a,x,rfl,ha,hx⟩:=fh hd;dsimp only at *;obtain ⟨n,rfl⟩:=Int.eq_ofNat_of_zero_le (show 0 <= i by omega);have hn:=nv (n:=n) (by omega);have hv:=jX ho;have pZ:=hk.2.1;change Q (.str (bZ n ++ yx o ++ (dS k.length 2 ++ k ++ yj o))) H at q;refine ⟨_,(af (ak (i:=1) ic.nd rfl (by first | exact Or.inl rfl | exact Or.inr rfl) (yc mh T.b_str (by kernel_rfl) (ag (dH bO T.b_len (by kernel_rfl) (ag (aI au (bv 0) b_int (fun _ _=>rfl)) ae rfl)) ae rfl)))
  (af (aH (aB (cZ (aD hr)) (dH bO T.b_len (by kernel_rfl) (ag (bv 1) ae rfl)) b_int (aw _))
   (ah (ak (i:=1) ic.nd rfl (by first | exact Or.inl rfl | exact Or.inr rfl) (ar aG b_str (bv 1))))
   av)
  (af (aH (aB lG (aI au (bv 0) b_int (fun _ _=>rfl)) cD (aw _))
   (ah (ai (ar aG (ar aG (ar aG (yc mh T.b_str (by kernel_rfl) (ag (aI au (bv 0) b_int (fun _ _=>rfl)) ae rfl)) b_str) (bv 1)) (aI au (bv 0) b_int (fun _ _=>rfl)))))
   av)
  (ah (ai (ar aG (ar aG (ar aG (ar aG (yc mh T.b_str (by kernel_rfl) (ag (aI au (bv 0) b_int (fun _ _=>rfl)) ae rfl)) b_str) (bv 1)) (aI au (bv 0) b_int (fun _ _=>rfl))) (aI au (bv 0) b_int (fun _ _=>rfl)))))))),?_⟩
  kas_types;lcg_off;refine kh (by rw [sizeLine_eq];omega) ?_;lcg_off;refine ie (cG _ (by omega)) ?_;rw [bY];have SQ:=cX (n:=k.length) (k:=2) (by omega) (by decide);have pI:=DX (n:=k.length) (by omega);lcg_off;refine kh (by rw [sizeLine_eq];omega) ?_;lcg_off;refine aF (fun h1=>?_) (fun h1=>?_)
  all_goals first
   | (rw [if_pos (by omega)] at pI;lcg_off;refine aS (by rw [show (Str.ofString "0").length = 1 by decide +kernel,sizeLine_eq];omega) ?_;rw [<- pI];lcg_off)
   | (rw [if_neg (by omega)] at pI;rw [<- pI];lcg_off)
  all_goals
   clear pI h1
   cases o with
   | none =>
    obtain rfl:x = .non:=by simpa only [oD,Rep] using hx
    lcg_off;refine ie (cG _ (by omega)) ?_;rw [bY];refine aS (by rw [lJ,sizeLine_eq];omega) ?_;lcg_off;refine aS (by rw [la,lJ,aR,sizeLine_eq];omega) ?_;lcg_off;refine aS (by rw [la,la,lJ,aR,sizeLine_eq];omega) ?_;change Q (.str (bZ n ++ Str.ofString " - " ++ (dS k.length 2 ++ k ++ Str.ofString ""))) H at q;rw [kI,<- ap] at q;exact q
   | some z =>
    obtain rfl:x = .str z:=by simpa only [oD,Rep] using hx
    change z.length <= 40 at hv;lcg_off;refine ie (cG _ (by omega)) ?_;rw [bY];refine aS (by rw [jK,sizeLine_eq];omega) ?_;lcg_off;refine aS (by rw [la,jK,aR,sizeLine_eq];omega) ?_;lcg_off;refine aS (by rw [la,la,jK,aR,sizeLine_eq];omega) ?_;lcg_off;refine aS (by rw [la,la,la,jK,aR,sizeLine_eq];omega) ?_;change Q (.str (bZ n ++ Str.ofString " + " ++ (dS k.length 2 ++ k ++ z))) H at q;rw [<- ap,<- ap] at q;exact q
theorem vc (e:Ent) (hd:Rep H (aK e) v) (h:wG e) (q:Q (.str (fZ e)) H):v8 [v] H Q E:=⟨v,e,rfl,hd,h,q⟩
theorem t9 (h:wG e):(fZ e).length <= 80:=by
 have h1:=nv (n:=e.2.1.toNat) (by have:=h.2.1;omega);have h2:=h.1.2.1;have h3:=jX h.2.2;unfold fZ;rw [la,la,la,la,aR,Av];omega
theorem yF (h:wG e):10 ∉ (fZ e).cps.toList:=by
 refine eh (eh (gg _ 10 (by decide +kernel)) ?_) (eh (eh (Bj _ _) (lY h.1.2.2)) ?_)
 ·cases e.2.2 with
  | none=>decide +kernel
  | some _=>exact (show 10 ∉ (Str.ofString " + ").cps.toList by decide +kernel)
 ·have:=h.2.2
  cases hv:e.2.2 with
  | none=>decide +kernel
  | some v =>
   rw [hv] at this;exact lY this.2
end
section
def wZ:Nat->Nat->List Nat
 | 0,_=>[]
 | n + 1,b=>b % 16 :: wZ n (b / 16)
theorem kz:∀ n b:Nat,(wZ n b).length = n
 | 0,_=>rfl
 | n + 1,b=>congrArg (· + 1) (kz n _)
theorem x8:∀ n b:Nat,okF (wZ n b)
 | 0,_=>fun _ h=>absurd h (by simp [wZ])
 | n + 1,b=>fun d hd=>by
  rcases List.mem_cons.mp hd with rfl | h
  ·exact Nat.mod_lt _ (by decide)
  ·exact x8 n _ d h
theorem vf:∀ n b:Nat,b < 16 ^ n->val (wZ n b) = b
 | 0,b,h=>by
  have:b = 0:=by simpa using h
  rw [this]
  rfl
 | n + 1,b,h=>by
  show ((b % 16:Nat):Int) + 16 * val (wZ n (b / 16)) = b;rw [vf n (b / 16) (by rw [Nat.pow_succ] at h;omega)];omega
def jP (es:List Ent):List Nat:=wZ (j5 es / 4).toNat (mV es).toNat
theorem kA (h1:1 <= es.length) (h2:es.length <= 199):Sized (jP es)/\((4 * (jP es).length:Nat):Int) = j5 es/\val (jP es) = mV es/\(jP es).length <= 398:=by
 have ho:=SW.onces_le (es.map (·.1));rw [List.length_map] at ho;obtain ⟨k,hk⟩:∃ k:Nat,j5 es = 8 * (k:Int)/\1 <= k/\k <= 199:=⟨max 1 (SW.onces (es.map (·.1))).length,by unfold j5 vK;omega,by omega,by omega⟩;obtain ⟨m,hm,hb⟩:=iS (sz:=vK (es.map (·.1))) (es.map (·.1)) 0;have Eo:mV es = (m:Int):=hm;have hs:j5 es = vK (es.map (·.1)):=rfl;have eQ:m < 2 ^ (8 * k):=by
  refine Nat.lt_pow_two_of_testBit m fun i hi=>?_
  refine Bool.eq_false_iff.mpr fun hc=>?_
  rcases (hb i).mp hc with h | ⟨z,_,p,hp,rfl⟩
  ·simp at h
  ·unfold cy at hp;obtain ⟨f,_,rfl⟩:=List.mem_map.mp hp;rw [<- hs,hk.1] at hi;have uT:=hk.2.1;generalize T24.numM f z.cps.toList = q at hi;have h3:=Int.emod_lt_of_pos q (show (0:Int) < 8 * (k:Int) by omega);have h4:=Int.emod_nonneg q (show (8 * (k:Int)) ≠ 0 by omega);omega
 unfold jP;rw [Eo,hk.1,show (8 * (k:Int) / 4).toNat = 2 * k by omega,Int.toNat_natCast];refine ⟨⟨x8 _ _,k,by omega,by omega,kz _ _⟩,by rw [kz];omega,vf _ _ ?_,by rw [kz];omega⟩;rw [show (16:Nat) = 2 ^ 4 from rfl,<- Nat.pow_mul,show 4 * (2 * k) = 8 * k by omega];exact eQ
def uW (es:List Ent):Str:=Str.ofString "run " ++ bZ es.length
def fY (es:List Ent):List Str:=uW es :: textOf (jP es) :: es.map fZ
def bz (es:List Ent):Str:=bU (fY es)
def hX (es:List Ent):Str:=bz es ++ bU [gI (bz es)]
def pG (es:List Ent):Prop:=(∀ e ∈ es,wG e)/\1 <= es.length/\es.length <= 199
theorem gC:(Str.ofString "run ").length = 4:=by decide +kernel
theorem zg (h:pG es):(uW es).length <= 7:=by
 have:=cX (n:=es.length) (k:=3) (by have:=h.2.2;omega) (by decide);unfold uW;rw [la,gC];omega
theorem ym (h:pG es):(textOf (jP es)).length <= 420:=by
 obtain ⟨s1,s2,s3,s4⟩:=kA h.2.1 h.2.2;obtain ⟨_,f2,_⟩:=s1.figs;unfold textOf;rw [la,la,dM,show (Str.ofString ":").length = 1 by decide +kernel];omega
theorem tM:∀ {es:List Ent},(∀ e ∈ es,wG e)->hZ (es.map fZ) <= 80 * es.length
 | [],_=>Nat.zero_le _
 | e :: es,h=>by
  have h1:=t9 (h e List.mem_cons_self);have h2:=tM fun x hx=>h x (List.mem_cons_of_mem _ hx)
  simp only [hZ,List.map_cons,List.sum_cons,List.length_cons] at h2 ⊢;omega
theorem fV (h:pG es):hZ (fY es) <= 20000/\(fY es).length = es.length + 2:=by
 have h1:=zg h;have h2:=ym h;have h3:=tM h.1;have h4:=h.2.2;refine ⟨?_,?_⟩
 ·show (uW es).length + ((textOf (jP es)).length + hZ (es.map fZ)) <= 20000;omega
 ·show (es.map fZ).length + 1 + 1 = _;rw [List.length_map]
theorem jb (h:pG es):(bz es).length <= 21000:=by
 have h1:=fV h;have h2:=h.2.2;unfold bz;rw [lj];omega
theorem kx (z:Str):(gI z).length <= 8:=by
 have h:=sN z;have:=cX (n:=(zv z).toNat) (k:=4) (by omega) (by decide);unfold gI;rw [la,km];omega
theorem ky (z:Str):(bU [gI z]).length <= 9:=by
 have h:=kx z;rw [lj];show (gI z).length + 0 + 1 <= 9;omega
def RunAt (H:Hp) (r:Addr) (es:List Ent):Prop:=∃ t pu xs,H r = some (.tup [.ref t,.ref pu])/\H t = some (.tup [.int (j5 es),.int (mV es)])/\H pu = some (.tup xs)/\Reps H (es.map aK) xs
def Ah (K:W.Frag):Sp:=fun vs H Q _=>∃ (r:Addr) (es:List Ent),vs = [.ref r]/\RunAt H r es/\pG es/\∀ H',Same H H'->Q (.str (hX es)) H'
theorem fF:ao ["run","many","rows","ahead"] ["run"] (aa cM):=⟨rfl,rfl,rfl,by decide +kernel,rfl,by decide +kernel,by decide +kernel⟩
theorem uk (T:Txt K mg) (N:Fn K mg "run_text" cM ["run"] f fd):FnOk P w K mg base cB (13) f fd ["run"] (Ah K):=by
 obtain ⟨_,_,bQ⟩:=T.f_text_of_rows;have cT:=gT (P:=P) (w:=w) (base:=base) T bQ;obtain ⟨_,_,kJ⟩:=T.f_sieve_text;have sV:=pP (P:=P) (w:=w) (base:=base) T kJ;obtain ⟨_,_,mw⟩:=T.f_entry_row;have vH:=rS (P:=P) (w:=w) (base:=base) T mw;obtain ⟨_,_,gp⟩:=T.f_end_row;have lT:=om (P:=P) (w:=w) (base:=base) T gp;refine N.fu.okB fF (fun vs H Q E h=>?_) (fun bA A outer s H vs Q E hr h=>?_)
 ·obtain ⟨r,es,rfl,_⟩:=h
  rfl
 ·obtain ⟨r,es,rfl,⟨t,pu,xs,hrr,ht,sZ,en⟩,hok,q⟩:=h;obtain ⟨s1,s2,s3,s4⟩:=kA hok.2.1 hok.2.2;have hl:=en.length;rw [List.length_map] at hl;have hn:=cX (n:=es.length) (k:=3) (by have:=hok.2.2;omega) (by decide);have Lf:=hok.2.2;refine ⟨_,(af (ak (i:=1) fF.nd rfl (by first | exact Or.inl rfl | exact Or.inr rfl) (dH bO T.b_len (by kernel_rfl) (ag (aI au (bv 0) b_int (fun _ _=>rfl)) ae rfl)))
  (af (ak (i:=2) fF.nd rfl (by first | exact Or.inl rfl | exact Or.inr rfl) (ar aG (fj (ag (oZ (dZ b_str (dZ (vq (bv 1)) oX))) (ag (bT kJ sV (hr.mono (by first | decide | omega)) (ag (aI au (bv 0) b_int (fun _ _=>rfl)) ae rfl)) ae rfl) rfl)) (jh (x:="entry") (ix:=[]) (fv:=[]) (osc:=aa cM) rfl ⟨rfl,by decide +kernel,by decide +kernel,by rfl,by decide +kernel,by decide +kernel,by decide +kernel⟩ (by rfl) (oY (aI au (bv 0) b_int (fun _ _=>rfl))) (fun _ _ _ _=>dA) (fun _ _ _ _=>(bT mw vH (hr.mono (by first | decide | omega)) (ag (bv 0) ae rfl))))))
  (af (ak (i:=3) fF.nd rfl (by first | exact Or.inl rfl | exact Or.inr rfl) (bT bQ cT (hr.mono (by first | decide | omega)) (ag (bv 2) ae rfl)))
  (ah (ai (ar aG (bv 3) (bT bQ cT (hr.mono (by first | decide | omega)) (ag (fj (ag (bT gp lT (hr.mono (by first | decide | omega)) (ag (bv 3) ae rfl)) ae rfl)) ae rfl)))))))),?_⟩
  kas_types;lcg_off;rw [<- hl];rw [qF];refine ⟨by rw [gC,sizeLine_eq];decide,?_⟩;lcg_off;refine .inl ⟨_,rfl,cG _ (by omega),_,rfl,by rw [bY,la,gC,sizeLine_eq];omega,?_⟩;rw [bY];refine ub (by rw [la,gC,sizeLine_eq];omega) ?_;lcg_off;refine C2 (jP es) (by rw [s2,s3];simp only [Rep,Reps];exact ⟨t,_,rfl,ht,_,_,rfl,rfl,_,_,rfl,rfl,rfl⟩) s1 ?_;lcg_off;rename_i p1 H1 FC MP CO;obtain ⟨L,l1,l2,l3⟩:=dz en;refine Eb (xs:=xs) (fun i us F=>F = H1/\us = ((es.take i).map fZ).map V.str/\i <= es.length) (by rw [<- hl,sizeLine_eq];omega) ⟨rfl,rfl,Nat.zero_le _⟩ (fun i us F h=>⟨h.1 ▸ SqT.of (MP _ _ sZ),by rw [h.2.1,List.length_map,List.length_map,List.length_take];have:=h.2.2;omega⟩) (fun i v us F hv h=>?_) (fun us p2 F H2 h pI NP mS=>?_)
  ·obtain ⟨rfl,rfl,_⟩:=h;rw [<- l2,List.getElem?_map] at hv;obtain ⟨te,Fz,rfl⟩:=Option.map_eq_some_iff.mp hv;have ID:es[i]? = some te.1:=by rw [<- l1,List.getElem?_map,Fz];rfl
   obtain ⟨oI,xY⟩:=List.getElem?_eq_some_iff.mp ID;lcg_off;refine vc te.1 ((l3 te (List.mem_of_getElem? Fz)).same MP) (hok.1 _ (List.mem_of_getElem? ID)) ?_;lcg_off;exact ⟨rfl,by rw [List.take_succ_eq_append_getElem oI,xY,List.map_append,List.map_append];rfl,oI⟩
  obtain ⟨rfl,rfl,_⟩:=h;rw [<- hl,List.take_length] at mS;lcg_off;refine nq (NP _ _ CO) mS (by rw [List.length_map,List.length_map,sizeLine_eq];show 2 + es.length <= _;omega) (fun p3 H3 X1 ZY vM=>?_)
  have hs:=fV hok;lcg_off;refine kb (fY es) vM (by omega) (by omega) (fun H4 Xl=>?_)
  lcg_off;refine ⟨_,rfl,?_⟩;lcg_off;rename_i p5 H5 X0 Xk FE;refine kb [gI (bz es)] FE (show 1 <= 1000 by decide) (by have:=kx (bz es);show (gI (bz es)).length + 0 <= _;omega) (fun H6 ZX=>?_);refine aS (by have h1:=jb hok;have h2:=ky (bz es);rw [sizeLine_eq];change (bz es).length + (bU [gI (bz es)]).length <= _;omega) ?_;exact q _ (by lcg_sub)
theorem nW (es:List Ent) (h:RunAt H r es) (h2:pG es) (q:∀ H',Same H H'->Q (.str (hX es)) H'):Ah K [.ref r] H Q E:=⟨r,es,rfl,h,h2,q⟩
end
section
theorem starts_app (x y:Str):Txt.startswith (x ++ y) x = true:=(jx _ _).mpr ⟨y.cps.toList,by rw [app_list]⟩
def C8:Sp:=fun vs H Q _=>∃ n:Nat,vs = [.str (Str.ofString "run " ++ bZ n)]/\1 <= n/\n <= 199/\∀ H',Same H H'->Q (.int (n:Int)) H'
theorem gy:ao ["row","many"] ["row"] (aa cO):=⟨rfl,rfl,rfl,by decide +kernel,rfl,by decide +kernel,by decide +kernel⟩
theorem rQ (T:Txt K mg) (N:Fn K mg "read_head" cO ["row"] f fd):FnOk P w K mg base cB (4) f fd ["row"] (C8):=by
 obtain ⟨_,_,bt⟩:=T.f_read_figures;have cU:=eC (P:=P) (w:=w) (base:=base) T bt;refine N.fu.okB gy (fun vs H Q E h=>?_) (fun bA A outer s H vs Q E hr h=>?_)
 ·obtain ⟨n,rfl,_⟩:=h
  rfl
 ·obtain ⟨n,rfl,S9,Iw,q⟩:=h;have hn:=cX (n:=n) (k:=3) (by omega) (by decide);refine ⟨_,(af (ak (i:=1) gy.nd rfl (by first | exact Or.inl rfl | exact Or.inr rfl) cD)
  (af (aH (bC (fP (bv 0) (ag b_str ae rfl)) (fun _=>rfl))
   (ah (ak (i:=1) gy.nd rfl (by first | exact Or.inl rfl | exact Or.inr rfl) (bT bt cU (hr.mono (by first | decide | omega)) (ag (bS dI (bv 0) (bD b_int) cf) (ag b_int (ag (dG T.g_MOST_ENTRIES) ae rfl) rfl) rfl))))
   av)
  (af (aH (aB lG (bv 1) cD (aw _))
   (ah da)
   av)
  (ah (ai (bv 1)))))),?_⟩
  kas_types;lcg_off;refine ⟨rfl,?_⟩;lcg_off;refine lq ?_;rw [starts_app];lcg_off;refine eY (by rw [la,gC,sizeLine_eq];omega) ?_;rw [jy (Str.ofString "run ") (bZ n) (by rw [gC];rfl)];lcg_off;refine wg (by omega) (by decide) (by decide +kernel) (by decide +kernel) (fun H1 s1=>?_);rw [show zD 1 9999 (Str.ofString (toString (9999:Int))).length (bZ n) = some (n:Int) from AH (n:=n) (least:=1) (most:=9999) (by omega) (by omega) (by decide) (by omega)];simp only [ug];lcg_off;exact q _ s1
def JO:Sp:=fun vs H Q _=>∃ ds:List Nat,vs = [.str (textOf ds)]/\Sized ds/\∀ v H',Same H H'->Rep H' (.tup [.int ((4 * ds.length:Nat):Int),.int (val ds)]) v->Q v H'
theorem ED {X:Cx} {body:List Stmt} {h₀:ExceptHandler} {hs:List ExceptHandler} {pos:Pos} {tb:TS} (hxe:∀ e s,X.xe e s->False) (hb:zI X body tb):BS X (.Try body (h₀ :: hs) [] [] pos) tb:=⟨by
 intro pins s σ H D I h;refine wpAny_Try_except (wpAny_mono (hb.h pins s σ H D I h) (fun f s1 q=>?_) fun e s1 q=>(hxe _ _ q).elim)
 cases f with
 | next=>exact wpAny_execs_nil q
 | brk=>exact q
 | cont=>exact q
 | ret u=>exact q⟩
theorem j7:ao ["row"] ["row"] (aa bo):=⟨rfl,rfl,rfl,by decide +kernel,rfl,by decide +kernel,by decide +kernel⟩
theorem ki (T:Txt K mg) (N:Fn K mg "read_sieve_row" bo ["row"] f fd):FnOk P w K mg base cB (13) f fd ["row"] (JO):=by
 obtain ⟨_,_,kK⟩:=T.f_read_sieve;have sW:=pQ (P:=P) (w:=w) (base:=base) T kK;refine N.fu.okB j7 (fun vs H Q E h=>?_) (fun bA A outer s H vs Q E hr h=>?_)
 ·obtain ⟨ds,rfl,_⟩:=h
  rfl
 ·obtain ⟨ds,rfl,hs,q⟩:=h;refine ⟨_,(ah (ED (fun _ _ h=>h) (ah (ai (bT kK sW (hr.mono (by first | decide | omega)) (ag (bv 0) ae rfl)))))),?_⟩
  kas_types;lcg_off;exact C3 ds hs q
theorem vd (h:wG e):oR (aK e) = true:=by
 obtain ⟨⟨a1,a2,a3⟩,⟨b1,b2⟩,c⟩:=h;unfold aK;simp only [oR,Bool.and_eq_true];refine ⟨⟨?_,?_⟩,?_⟩
 ·simp only [ik,gA];rw [decide_eq_true (by omega),Bool.true_and];exact a3
 ·simp only [nK];exact decide_eq_true (by omega)
 ·cases hv:e.2.2 with
  | none=>rfl
  | some z =>
   rw [hv] at c;simp only [oD,JB,ik,gA];rw [decide_eq_true ⟨by omega,by have:=c.1;omega⟩,Bool.true_and];exact c.2
theorem Ar (h:wG e):E7 (aK e) = true:=by
 obtain ⟨⟨a1,a2,a3⟩,_,c⟩:=h;unfold aK;simp only [E7,As,Bool.and_eq_true];refine ⟨decide_eq_true (by rw [sizeLine_eq];omega),trivial,?_,trivial⟩
 cases hv:e.2.2 with
 | none=>rfl
 | some z =>
  rw [hv] at c;simp only [oD,E7];exact decide_eq_true (by have:=c.1;rw [sizeLine_eq];omega)
def Gn:Option Str->Str
 | none=>Str.ofString "- "
 | some _=>Str.ofString "+ "
def nY (e:Ent):Str:=dS e.1.length 2 ++ e.1 ++ yj e.2.2
theorem rD:∀ o:Option Str,(Gn o).length = 2
 | none=>by decide +kernel
 | some _=>show (Str.ofString "+ ").length = 2 by decide +kernel
theorem Gm:∀ o:Option Str,(yx o).cps.toList = 32 :: (Gn o).cps.toList
 | none=>by decide +kernel
 | some _=>show (Str.ofString " + ").cps.toList = 32 :: (Str.ofString "+ ").cps.toList by decide +kernel
theorem Bh (e:Ent):(Txt.partition (fZ e) (Str.ofString " ")).1 = bZ e.2.1.toNat/\(Txt.partition (fZ e) (Str.ofString " ")).2.2 = Gn e.2.2 ++ nY e:=by
 have hc:Str.ofString " " = ⟨#[32]⟩:=by decide +kernel
 have hx:(fZ e).cps.toList = (bZ e.2.1.toNat).cps.toList ++ 32 :: (Gn e.2.2 ++ nY e).cps.toList:=by
  show (bZ e.2.1.toNat ++ yx e.2.2 ++ nY e).cps.toList = _;rw [app_list,app_list,app_list,Gm];simp
 rw [hc];obtain ⟨h1,h2⟩:=uf hx (gg _ 32 (by decide +kernel));rw [h1,h2];exact ⟨aV (by simp),aV (by simp)⟩
def Al:Sp:=fun vs H Q _=>∃ e:Ent,vs = [.str (fZ e)]/\wG e/\∀ v H',Same H H'->Rep H' (aK e) v->Q v H'
theorem bF:ao ["row","parts","stamp","sign","pair","entry"] ["row"] (aa cw):=⟨rfl,rfl,rfl,by decide +kernel,rfl,by decide +kernel,by decide +kernel⟩
theorem pR (T:Txt K mg) (N:Fn K mg "read_entry" cw ["row"] f fd):FnOk P w K mg base cB (5) f fd ["row"] (Al):=by
 obtain ⟨_,_,bt⟩:=T.f_read_figures;have cU:=eC (P:=P) (w:=w) (base:=base) T bt;obtain ⟨_,_,eK⟩:=T.f_read_key_and_rest;have ji:=iz (P:=P) (w:=w) (base:=base) T eK;obtain ⟨_,_,ph⟩:=T.f_is_entry;have xm:=ur (P:=P) (w:=w) (base:=base) T ph;refine N.fu.okB bF (fun vs H Q E h=>?_) (fun bA A outer s H vs Q E hr h=>?_)
 ·obtain ⟨e,rfl,_⟩:=h
  rfl
 ·obtain ⟨e,rfl,hok,q⟩:=h;obtain ⟨p1,p2⟩:=Bh e;have tl:=t9 hok;have hn:=nv (n:=e.2.1.toNat) (by have:=hok.2.1;omega);have hv:=jX hok.2.2;have hk:=hok.1;have hrl:(Gn e.2.2 ++ nY e).length <= 70:=by
   unfold nY;rw [la,la,la,rD,aR];have:=hk.2.1;omega
  refine ⟨_,(af (ak (i:=1) bF.nd rfl (by first | exact Or.inl rfl | exact Or.inr rfl) (kD (bv 0) (ag b_str ae rfl)))
  (af (ak (i:=2) bF.nd rfl (by first | exact Or.inl rfl | exact Or.inr rfl) (bT bt cU (hr.mono (by first | decide | omega)) (ag (aI au (bv 1) b_int (fun _ _=>rfl)) (ag b_int (ag (dG T.g_GREATEST_STAMP) ae rfl) rfl) rfl)))
  (af (ak (i:=3) bF.nd rfl (by first | exact Or.inl rfl | exact Or.inr rfl) (bS dI (aI au (bv 1) b_int (fun _ _=>rfl)) cf (bD b_int)))
  (af (ak (i:=4) bF.nd rfl (by first | exact Or.inl rfl | exact Or.inr rfl) (bT eK ji (hr.mono (by first | decide | omega)) (ag (bS dI (aI au (bv 1) b_int (fun _ _=>rfl)) (bD b_int) cf) ae rfl)))
  (af (aH (gM (eJ (aB lG (bv 2) cD (aw _)) (eE (aB lG (bv 4) cD (aw _)))))
   (ah (ai cD))
   av)
  (af (ak (i:=5) bF.nd rfl (by first | exact Or.inl rfl | exact Or.inr rfl) cD)
  (af (aH (aB (cZ (aD hr)) (bv 3) b_str (aw _))
   (ah (ak (i:=5) bF.nd rfl (by first | exact Or.inl rfl | exact Or.inr rfl) (fJ (ag (aI au (bv 4) b_int (fun _ _=>rfl)) (ag (bv 2) (ag (aI au (bv 4) b_int (fun _ _=>rfl)) ae rfl) rfl) rfl))))
   av)
  (af (aH (gM (jQ (aB (cZ (aD hr)) (bv 3) b_str (aw _)) (gK (aB (cZ (aD hr)) (aI au (bv 4) b_int (fun _ _=>rfl)) b_str (aw _)))))
   (ah (ak (i:=5) bF.nd rfl (by first | exact Or.inl rfl | exact Or.inr rfl) (fJ (ag (aI au (bv 4) b_int (fun _ _=>rfl)) (ag (bv 2) (ag cD ae rfl) rfl) rfl))))
   av)
  (ah (ai (IY (bC (bT ph xm (hr.mono (by first | decide | omega)) (ag (bv 5) ae rfl)) (fun _=>rfl)) (bv 5) cD))))))))))),?_⟩
  kas_types;lcg_off;refine ⟨rfl,?_⟩;lcg_off;refine ⟨_,_,rfl,rfl,by decide +kernel,by rw [sizeLine_eq];omega,fun p H1 s1 hp=>?_⟩;rw [p1,p2] at hp;lcg_off;refine wg (by omega) (by decide) (by decide +kernel) (by decide +kernel) (fun H2 s2=>?_);rw [show zD 1 999999999 (Str.ofString (toString (999999999:Int))).length (bZ e.2.1.toNat) = some (e.2.1.toNat:Int) from AH (n:=e.2.1.toNat) (least:=1) (most:=999999999) (by have:=hok.2.1;omega) (by have:=hok.2.1;omega) (by decide) (by omega),show ((e.2.1.toNat:Nat):Int) = e.2.1 from by have:=hok.2.1;omega];simp only [ug];lcg_off;refine eY (by rw [sizeLine_eq];omega) ?_;rw [nL (Gn e.2.2) (nY e) (by rw [rD];rfl)];lcg_off;refine eY (by rw [sizeLine_eq];omega) ?_;rw [jy (Gn e.2.2) (nY e) (by rw [rD];rfl)];lcg_off;refine AF e.1 (yj e.2.2) rfl hk.1 hk.2.1 hv (fun p3 H3 s3 X1=>?_);obtain ⟨k,i,o⟩:=e;dsimp only at *;lcg_off
  cases o with
  | none =>
   refine aF (fun h=>absurd h (show Str.ofString "- " ≠ Str.ofString "+ " by decide +kernel)) (fun _=>?_)
   lcg_off;refine aF (fun _=>?_) (fun h=>absurd rfl h);lcg_off;refine aF (fun _=>?_) (fun h=>absurd rfl h);lcg_off;rename_i p4 H4 s4 Jp;have Le:Rep H4 (aK (k,i,none)) (.ref p4):=rX (e:=(k,i,none)) Jp Rep.non';refine iX (aK (k,i,none)) Le (Ar hok) (fun H5 s5=>?_);rw [vd hok];lcg_off;exact q _ _ (by lcg_sub) (Le.same s5)
  | some z =>
   refine aF (fun _=>?_) (fun h=>absurd rfl h);lcg_off;rename_i p4 H4 s4 Jp;refine aF (fun h=>absurd h (show Str.ofString "+ " ≠ Str.ofString "- " by decide +kernel)) (fun _=>?_)
   lcg_off;have Le:Rep H4 (aK (k,i,some z)) (.ref p4):=rX (e:=(k,i,some z)) Jp Rep.str';refine iX (aK (k,i,some z)) Le (Ar hok) (fun H5 s5=>?_);rw [vd hok];lcg_off;exact q _ _ (by lcg_sub) (Le.same s5)
theorem AJ (e:Ent) (h:wG e) (q:∀ v H',Same H H'->Rep H' (aK e) v->Q v H'):Al [.str (fZ e)] H Q E:=⟨e,rfl,h,q⟩
end
section
def MH (H:Hp) (p l:Addr) (es:List Ent) (i:Nat) (σ:St) (F:Hp):Prop:=∃ (L:List (Ent × V)) (o4 o5:Option V),σ = [some (.ref p),some (.int es.length),some (.ref l),o4,o5]/\Same H F/\F l = some (.lst (L.map (·.2)))/\L.map (·.1) = es.take i/\(∀ t ∈ L,Rep F (aK t.1) t.2)
def xu (K:W.Frag):Sp:=fun vs H Q _=>∃ (p:Addr) (zs:List Str) (es:List Ent),vs = [.ref p,.int (es.length:Int)]/\H p = some (.lst (zs.map V.str))/\(∀ i e,es[i]? = some e->zs[i + 2]? = some (fZ e))/\pG es/\iI es/\∀ t xs H',Same H H'->H' t = some (.tup xs)->Reps H' (es.map aK) xs->Q (.ref t) H'
theorem dg:ao ["rows","many","entries","line","entry"] ["rows","many"] (aa bJ):=⟨rfl,rfl,rfl,by decide +kernel,rfl,by decide +kernel,by decide +kernel⟩
theorem mM (T:Txt K mg) (N:Fn K mg "read_entries" bJ ["rows","many"] f fd):FnOk P w K mg base cB (6) f fd ["rows","many"] (xu K):=by
 obtain ⟨_,_,kL⟩:=T.f_read_entry;have sX:=pR (P:=P) (w:=w) (base:=base) T kL;obtain ⟨_,_,gm⟩:=T.f_row_at;have kM:=qD (P:=P) (w:=w) (base:=base) T gm;obtain ⟨_,_,jt⟩:=T.f_comes_ahead;have qf:=oo (P:=P) (w:=w) (base:=base) T jt;refine N.fu.okB dg (fun vs H Q E h=>?_) (fun bA A outer s H vs Q E hr h=>?_)
 ·obtain ⟨p,zs,es,rfl,_⟩:=h
  rfl
 ·obtain ⟨p,zs,es,rfl,hp,hz,hok,hri,q⟩:=h;have Lf:=hok.2.2;refine ⟨_,(af (ak (i:=2) dg.nd rfl (by first | exact Or.inl rfl | exact Or.inr rfl) (fj ae))
  (af (eF PassesOwn.never rfl (Mz T.b_range (ag (dG T.g_FIRST_ENTRY_LINE) (ag (ar aG (dG T.g_FIRST_ENTRY_LINE) (bv 1)) ae rfl) rfl)) (cJ (i:=3) dg.nd rfl (by first | exact Or.inl rfl | exact Or.inr rfl))
   (af (ak (i:=4) dg.nd rfl (by first | exact Or.inl rfl | exact Or.inr rfl) (bT kL sX (hr.mono (by first | decide | omega)) (ag (bT gm kM (hr.mono (by first | decide | omega)) (ag (bv 0) (ag (bv 3) ae rfl) rfl)) ae rfl)))
  (af (aH (aB lG (bv 4) cD (aw _))
   (ah da)
   av)
  (af (aH (gM (jQ (aB uh (dH bO T.b_len (by kernel_rfl) (ag (bv 2) ae rfl)) b_int (aw _)) (gK (cH (bC (bT jt qf (hr.mono (by first | decide | omega)) (ag (aI au (bv 2) (IW vR b_int) (fun _ _=>rfl)) (ag (bv 4) ae rfl) rfl)) (fun _=>rfl))))))
   (ah da)
   av)
  (ah (nz (lQ (bv 2) (ag (bv 4) ae rfl))))))))
  (ah (ai (yc sP T.b_tuple (by kernel_rfl) (ag (bv 2) ae rfl)))))),?_⟩
  kas_types;lcg_off;rename_i l Hl Iy sl hl;refine forR (MH H p l es)
   ⟨[],_,none,rfl,sl,hl,rfl,fun t ht=>(nomatch ht)⟩ (fun i σ F hi h=>?_) (fun σ F h=>?_)
  ·obtain ⟨L,o4,o5,rfl,s1,hF,hL,hR⟩:=h;have xY:i < es.length:=by omega
   obtain ⟨e,he⟩:∃ e,es[i]? = some e:=⟨_,List.getElem?_eq_getElem xY⟩;have Nd:=(List.getElem?_eq_some_iff.mp he).2;have Tz:L.length = i:=by rw [<- List.length_map (f:=(·.1)),hL,List.length_take];omega
   lcg_off;refine ll zs (i + 3) (fZ e) (by omega) (s1 _ _ hp) (by omega) (hz i e he) ?_;lcg_off;refine AJ e (hok.1 _ (List.mem_of_getElem? he)) (fun v F2 s2 hv=>?_);obtain ⟨c,x,rfl,hc,hx⟩:=fh hv;lcg_off;have Nh:=s2 _ _ hF;have done:∀ F3,Same F2 F3->MH H p l es (i + 1) [some (.ref p),some (.int es.length),some (.ref l),some (.int (3 + (i:Int))),some (.ref c)] (upd F3 l (.lst (L.map (·.2) ++ [.ref c]))):=fun F3 s3=>by
    have tp:zB F3 (upd F3 l (.lst (L.map (·.2) ++ [.ref c]))):=zO (s3 _ _ Nh);refine ⟨L ++ [(e,.ref c)],_,_,rfl,fX (Same.tr s3 (Same.tr s2 s1)) Iy,?_,?_,?_⟩
    ·rw [aC,List.map_append]
     rfl
    ·rw [List.map_append,hL,List.take_succ_eq_append_getElem xY,Nd]
     rfl
    ·intro t ht
     rcases List.mem_append.mp ht with h | h
     ·exact Rep.tups tp (((hR t h).same s2).same s3)
     ·rw [List.mem_singleton.mp h];exact Rep.tups tp (hv.same s3)
   rcases List.eq_nil_or_concat L with rfl | ⟨L0,t,rfl⟩
   ·refine aF (fun h=>absurd h (by decide)) (fun _=>?_)
    lcg_off;refine iU Nh (by rw [List.length_map,Tz,sizeLine_eq];omega) ?_;lcg_off;exact done F2 (Same.refl _)
   ·rw [List.concat_eq_append] at *;refine aF (fun _=>?_) (fun h=>absurd (by rw [List.length_map,List.length_append,List.length_singleton];omega) h)
    have hah:eZ (pF t.1) (pF e) = true:=by
     have h5:=hri;unfold iI at h5;rw [<- List.take_append_drop i es,List.pairwise_append] at h5;exact h5.2.2 t.1 (by rw [<- hL,List.map_append];exact List.mem_append_right _ List.mem_cons_self) e (by rw [List.drop_eq_getElem_cons xY,Nd];exact List.mem_cons_self)
    lcg_off;refine ig (SqL.of Nh) (v:=t.2) (by rw [List.map_append];exact Cw _ _) ?_;lcg_off;refine zy t.1 e ((hR t (List.mem_append_right _ List.mem_cons_self)).same s2) hv (fun F3 s3=>?_);rw [hah];lcg_off;refine iU (s3 _ _ Nh) (by rw [List.length_map,Tz,sizeLine_eq];omega) ?_;lcg_off;exact done F3 s3
  ·obtain ⟨L,o4,o5,rfl,s1,hF,hL,hR⟩:=h;rw [show (3 + (es.length:Int) - 3).toNat = es.length by omega,List.take_length] at hL;have Tz:L.length = es.length:=by rw [<- List.length_map (f:=(·.1)),hL]
   lcg_off;refine lp (SqL.of hF) (fun t G ht sG hG=>?_);exact q t _ G (Same.tr sG s1) hG (by rw [<- hL];exact jF fun t ht=>(hR t ht).same sG)
theorem yG (zs:List Str) (es:List Ent) (hi:i = (es.length:Int)) (hp:H p = some (.lst (zs.map V.str))) (hz:∀ i e,es[i]? = some e->zs[i + 2]? = some (fZ e)) (h1:pG es) (h2:iI es) (q:∀ t xs H',Same H H'->H' t = some (.tup xs)->Reps H' (es.map aK) xs->Q (.ref t) H'):xu K [.ref p,.int i] H Q E:=⟨p,zs,es,by rw [hi],hp,hz,h1,h2,q⟩
theorem qA:∀ xs ys:List Str,bU (xs ++ ys) = bU xs ++ bU ys
 | [],ys=>aV (by rw [app_list];rfl)
 | x :: xs,ys=>by
  show x ++ Str.ofString "\n" ++ bU (xs ++ ys) = x ++ Str.ofString "\n" ++ bU xs ++ bU ys;rw [qA xs ys,ap,ap,ap]
def fQ (es:List Ent):List Str:=fY es ++ [gI (bz es)]
theorem iQ (es:List Ent):hX es = bU (fQ es):=(qA _ _).symm
def Ap (K:W.Frag):Sp:=fun vs H Q _=>∃ (p:Addr) (es:List Ent),vs = [.str (hX es),.ref p,.int (3 + (es.length:Int))]/\H p = some (.lst ((fQ es).map V.str))/\pG es/\∀ H',Same H H'->Q .non H'
theorem gz:ao ["text","rows","line","ahead","whole"] ["text","rows","line"] (aa cQ):=⟨rfl,rfl,rfl,by decide +kernel,rfl,by decide +kernel,by decide +kernel⟩
theorem rT (T:Txt K mg) (N:Fn K mg "check_end" cQ ["text","rows","line"] f fd):FnOk P w K mg base cB (3) f fd ["text","rows","line"] (Ap K):=by
 obtain ⟨_,_,bQ⟩:=T.f_text_of_rows;have cT:=gT (P:=P) (w:=w) (base:=base) T bQ;obtain ⟨_,_,gp⟩:=T.f_end_row;have lT:=om (P:=P) (w:=w) (base:=base) T gp;refine N.fu.okB gz (fun vs H Q E h=>?_) (fun bA A outer s H vs Q E hr h=>?_)
 ·obtain ⟨p,es,rfl,_⟩:=h
  rfl
 ·obtain ⟨p,es,rfl,hp,hok,q⟩:=h;have hs:=fV hok;have Lf:=hok.2.2;have hal:=jb hok;have her:=ky (bz es);refine ⟨_,(af (ak (i:=3) gz.nd rfl (by first | exact Or.inl rfl | exact Or.inr rfl) (bT bQ cT (hr.mono (by first | decide | omega)) (ag (bS dI (bv 1) cf (bD (ar jG (bv 2) b_int))) ae rfl)))
  (af (ak (i:=4) gz.nd rfl (by first | exact Or.inl rfl | exact Or.inr rfl) (ar aG (bv 3) (bT bQ cT (hr.mono (by first | decide | omega)) (ag (fj (ag (bT gp lT (hr.mono (by first | decide | omega)) (ag (bv 3) ae rfl)) ae rfl)) ae rfl))))
  (af (aH (cH (bC (fP (bv 0) (ag (bv 4) ae rfl)) (fun _=>rfl)))
   (ah da)
   av)
  (ah (aH (aB (d9 (aD hr)) (bv 0) (bv 4) (aw _))
   (ah da)
   av))))),?_⟩
  kas_types;lcg_off;refine AN (SqL.of hp) (fun p2 H2 pI s2 mS=>?_);rw [show (3 + (es.length:Int) - 1) = (((fY es).map V.str).length:Int) by rw [List.length_map,hs.2];omega,Ey _ (by unfold fQ;rw [List.length_map,List.length_map,List.length_append];omega)] at mS;unfold fQ at mS;rw [List.map_append,List.take_left] at mS;lcg_off;refine kb (fY es) mS (by omega) (by omega) (fun H3 s3=>?_);lcg_off;refine ⟨_,rfl,?_⟩;lcg_off;rename_i p5 H5 X0 s5 FE;refine kb [gI (bz es)] FE (show 1 <= 1000 by decide) (by have:=kx (bz es);show (gI (bz es)).length + 0 <= _;omega) (fun H6 s6=>?_);refine aS (by rw [sizeLine_eq];change (bz es).length + (bU [gI (bz es)]).length <= _;omega) ?_;have xX:Txt.startswith (hX es) (bU (fY es) ++ bU [gI (bz es)]) = true:=(jx _ _).mpr (List.prefix_refl _);lcg_off;refine ⟨rfl,?_⟩;lcg_off;refine lq ?_;rw [xX];lcg_off;refine dE (fun h=>absurd rfl h) (fun _=>?_);lcg_off;exact q _ (by lcg_sub)
theorem Ci (es:List Ent) (hi:i = 3 + (es.length:Int)) (hp:H p = some (.lst ((fQ es).map V.str))) (h1:pG es) (q:∀ H',Same H H'->Q .non H'):Ap K [.str (hX es),.ref p,.int i] H Q E:=⟨p,es,by rw [hi],hp,h1,q⟩
theorem Cz (h:pG es):∀ z ∈ fQ es,10 ∉ z.cps.toList:=by
 intro z hz;unfold fQ fY at hz;simp only [List.cons_append,List.mem_cons,List.mem_append,List.mem_map,List.not_mem_nil,or_false] at hz
 rcases hz with rfl | rfl | ⟨e,he,rfl⟩ | rfl
 ·exact eh (by decide +kernel) (gg _ 10 (by decide +kernel))
 ·obtain ⟨s1,_⟩:=kA h.2.1 h.2.2;unfold textOf;refine eh (eh (gg (4 * (jP es).length) 10 (by decide +kernel)) (by decide +kernel)) ?_;rw [dW];intro hm;obtain ⟨d,_,hd⟩:=List.mem_map.mp hm;omega
 ·exact yF (h.1 e he)
 ·exact eh (by decide +kernel) (gg _ 10 (by decide +kernel))
theorem Bq (h:H p = some (.tup [.int m,.int n])) (h':H p' = some (.tup [.int m,.int n])) (q:Q (.bl false) H):pO (.ref p) (.ref p') H Q:=by
 refine ⟨.tup [.int m,.int n],.tup [.int m,.int n],by simp only [Rep,Reps];exact ⟨p,_,rfl,h,_,_,rfl,rfl,_,_,rfl,rfl,rfl⟩,by simp only [Rep,Reps];exact ⟨p',_,rfl,h',_,_,rfl,rfl,_,_,rfl,rfl,rfl⟩,by simp [D.dep,D.deps],by simp [D.dep,D.deps],?_⟩;rw [eS];exact q
def Ak (K:W.Frag):Sp:=fun vs H Q _=>∃ es:List Ent,vs = [.str (hX es)]/\pG es/\iI es/\gj H/\∀ r H1,SameB dB H H1->gj H1->RunAt H1 r es->Q (.ref r) H1
theorem d7:ao ["text","rows","many","sieve","entries"] ["text"] (aa dn):=⟨rfl,rfl,rfl,by decide +kernel,rfl,by decide +kernel,by decide +kernel⟩
theorem um (T:Txt K mg) (vO:∀ p ∈ tabs,base.BuiltinsAt mg p) (kIn:K.In base) (N:Fn K mg "read_run" dn ["text"] f fd):FnOk P w K mg base cB (14) f fd ["text"] (Ak K):=by
 obtain ⟨_,_,rh⟩:=T.f_rows_of;have zC:=wC (P:=P) (w:=w) (base:=base) T rh;obtain ⟨_,_,mq⟩:=T.f_read_head;have vF:=rQ (P:=P) (w:=w) (base:=base) T mq;obtain ⟨_,_,gn⟩:=T.f_read_sieve_row;have lS:=ki (P:=P) (w:=w) (base:=base) T gn;obtain ⟨_,_,iJ⟩:=T.f_read_entries;have pq:=mM (P:=P) (w:=w) (base:=base) T iJ;obtain ⟨_,_,mC⟩:=T.f_check_end;have vI:=rT (P:=P) (w:=w) (base:=base) T mC;obtain ⟨_,_,gm⟩:=T.f_row_at;have kM:=qD (P:=P) (w:=w) (base:=base) T gm;obtain ⟨_,_,fo⟩:=T.f_sieve_of_entries;have jU:=je (P:=P) (w:=w) (base:=base) T vO kIn fo;refine N.fu.okB d7 (fun vs H Q E h=>?_) (fun bA A outer s H vs Q E hr h=>?_)
 ·obtain ⟨es,rfl,_⟩:=h
  rfl
 ·obtain ⟨es,rfl,hok,hri,tok,q⟩:=h;have hal:=jb hok;have her:=ky (bz es);obtain ⟨d1,d2,d3,d4⟩:=kA hok.2.1 hok.2.2;refine ⟨_,(af (ak (i:=1) d7.nd rfl (by first | exact Or.inl rfl | exact Or.inr rfl) (bT rh zC (hr.mono (by first | decide | omega)) (ag (bv 0) ae rfl)))
  (af (ak (i:=2) d7.nd rfl (by first | exact Or.inl rfl | exact Or.inr rfl) (bT mq vF (hr.mono (by first | decide | omega)) (ag (bT gm kM (hr.mono (by first | decide | omega)) (ag (bv 1) (ag (dG T.g_HEAD_LINE) ae rfl) rfl)) ae rfl)))
  (af (ak (i:=3) d7.nd rfl (by first | exact Or.inl rfl | exact Or.inr rfl) (bT gn lS (hr.mono (by first | decide | omega)) (ag (bT gm kM (hr.mono (by first | decide | omega)) (ag (bv 1) (ag (dG T.g_SIEVE_LINE) ae rfl) rfl)) ae rfl)))
  (af (ak (i:=4) d7.nd rfl (by first | exact Or.inl rfl | exact Or.inr rfl) (bT iJ pq (hr.mono (by first | decide | omega)) (ag (bv 1) (ag (bv 2) ae rfl) rfl)))
  (af (nz (bT mC vI (hr.mono (by first | decide | omega)) (ag (bv 0) (ag (bv 1) (ag (ar aG (dG T.g_FIRST_ENTRY_LINE) (bv 2)) ae rfl) rfl) rfl)))
  (af (aH (aB (d9 (aD hr)) (bv 3) (bT fo jU (hr.mono (by first | decide | omega)) (ag (bv 4) ae rfl)) (aw _))
   (ah da)
   av)
  (ah (ai (fJ (ag (bv 3) (ag (bv 4) ae rfl) rfl)))))))))),?_⟩
  kas_types;lcg_off;refine yE (fQ es) (iQ es) (Cz hok) (by rw [<- iQ];unfold hX;rw [la];omega) (fun p H1 hp s1 hl=>?_);lcg_off;refine ll (fQ es) 1 (uW es) rfl hl (by decide) rfl ?_;lcg_off;refine ⟨es.length,rfl,hok.2.1,hok.2.2,fun H2 s2=>?_⟩;lcg_off;refine ll (fQ es) 2 (textOf (jP es)) rfl (s2 _ _ hl) (by decide) rfl ?_;lcg_off;refine ⟨jP es,rfl,d1,fun v H3 s3 hv=>?_⟩;rw [d2,d3] at hv;obtain ⟨t,ys,rfl,ht,hy⟩:=hv.tupE;lcg_off;refine yG (fQ es) es rfl (s3 _ _ (s2 _ _ hl)) (fun i e he=>?_) hok hri (fun pu xs H4 s4 sZ en=>?_)
  ·show (es.map fZ ++ [gI (bz es)])[i]? = _;rw [List.getElem?_append_left (by rw [List.length_map];exact (List.getElem?_eq_some_iff.mp he).1),List.getElem?_map,he]
   rfl
  lcg_off;refine Ci es rfl (s4 _ _ (s3 _ _ (s2 _ _ hl))) hok (fun H5 s5=>?_);lcg_off;have JH:gj H5:=tok.same (Same.tr s5 (Same.tr s4 (Same.tr s3 (Same.tr s2 s1))));refine Dc es (s5 _ _ sZ) (en.same s5) (by have:=hok.2.2;omega) JH (fun t' H6 s6 NA ht'=>?_);obtain ⟨_,htb⟩:=JH.tbl;have tp:zB H5 H6:=nV (s6.toN htb);have KW:=tp _ _ (s5 _ _ (s4 _ _ ht));obtain ⟨vx,_,rfl,hx,h3⟩:=hy.consE;obtain ⟨vy,_,rfl,XQ,h4⟩:=h3.consE;obtain rfl:=h4.nilE;simp only [Rep] at hx XQ;subst hx XQ;refine Bq KW ht' ?_;lcg_off;rename_i r H7 s7 hr7;exact q r H7 ((SameB.of (Same.tr s5 (Same.tr s4 (Same.tr s3 (Same.tr s2 s1))))).trans (s6.trans (SameB.of s7))) (NA.same s7) ⟨t,pu,xs,hr7,s7 _ _ KW,s7 _ _ (tp _ _ (s5 _ _ sZ)),(Reps.tups tp (en.same s5)).same s7⟩
theorem j9 (es:List Ent) (h1:pG es) (h2:iI es) (tok:gj H) (q:∀ r H1,SameB dB H H1->gj H1->RunAt H1 r es->Q (.ref r) H1):Ak K [.str (hX es)] H Q E:=⟨es,rfl,h1,h2,tok,q⟩
end
section
theorem Gk:∀ d:Nat,d < 16->mj (Str.ofString "abcdefghijklmnop").cps.toList (d:Int) = some (97 + d):=by decide +kernel
theorem zJ {i d:Nat} (h:okF ds) (hd:ds[i]? = some d):val (ds.drop i) % 16 = (d:Int)/\val (ds.drop i) / 16 = val (ds.drop (i + 1)):=by
 obtain ⟨hi,he⟩:=List.getElem?_eq_some_iff.mp hd;have h1:=h d (List.mem_of_getElem? hd);rw [List.drop_eq_getElem_cons hi,he];show ((d:Int) + 16 * val (ds.drop (i + 1))) % 16 = _/\((d:Int) + 16 * val (ds.drop (i + 1))) / 16 = _;omega
def E2 (K:W.Frag):Sp:=fun vs H Q _=>∃ (p:Addr) (xs:List V) (es:List Ent),vs = [.ref p]/\H p = some (.lst xs)/\Reps H (es.map aK) xs/\pG es/\∀ H',Same H H'->Q (.str (textOf (jP es))) H'
theorem aW:ao ["_law_entries","_law_size","_law_bits","_law_found","_law_k"] ["_law_entries"] (aa bp):=⟨rfl,rfl,rfl,by decide +kernel,rfl,by decide +kernel,by decide +kernel⟩
theorem kj (T:Txt K mg) (N:Fn K mg "_law_sieve_row" bp ["_law_entries"] f fd):FnOk P w K mg base cB (3) f fd ["_law_entries"] (E2 K):=by
 obtain ⟨_,_,bE⟩:=T.f__law_sieve;have cY:=fN (P:=P) (w:=w) (base:=base) T bE;refine N.fu.okB aW (fun vs H Q E h=>?_) (fun bA A outer s H vs Q E hr h=>?_)
 ·obtain ⟨p,xs,es,rfl,_⟩:=h
  rfl
 ·obtain ⟨p,xs,es,rfl,hp,en,hok,q⟩:=h;have Lf:=hok.2.2;obtain ⟨d1,d2,d3,d4⟩:=kA hok.2.1 hok.2.2;obtain ⟨f1,f2,f3,f4,f5⟩:=d1.figs;refine ⟨_,(af (IS (bT bE cY (hr.mono (by first | decide | omega)) (ag (bv 0) ae rfl)) (IU rfl (vp (cJ (i:=1) aW.nd rfl (by first | exact Or.inl rfl | exact Or.inr rfl)) (vp (cJ (i:=2) aW.nd rfl (by first | exact Or.inl rfl | exact Or.inr rfl)) EF))))
  (af (ak (i:=3) aW.nd rfl (by first | exact Or.inl rfl | exact Or.inr rfl) (ar aG (yc mh T.b_str (by kernel_rfl) (ag (bv 1) ae rfl)) b_str))
  (af (eF PassesOwn.never rfl (ya T.b_range (ag (ar aZ (bv 1) b_int) ae rfl)) (cJ (i:=4) aW.nd rfl (by first | exact Or.inl rfl | exact Or.inr rfl))
   (af (ak (i:=3) aW.nd rfl (by first | exact Or.inl rfl | exact Or.inr rfl) (ar aG (bv 3) (aI au b_str (ar aN (bv 2) b_int) (fun _ _=>rfl))))
  (ah (ak (i:=2) aW.nd rfl (by first | exact Or.inl rfl | exact Or.inr rfl) (ar aZ (bv 2) b_int)))))
  (ah (ai (bv 3)))))),?_⟩
  kas_types;lcg_off;refine ⟨p,xs,es,rfl,hp,en,by omega,hok.2.1,fun t H1 zs s1 ht Jk Jl=>?_⟩;obtain ⟨e1,e2⟩:=nP (ks:=es.map (·.1)) Jk (fun z=>by rw [Jl,List.mem_map]) (by rw [List.length_map];exact hok.2.1);rw [<- e1,<- e2] at ht;change H1 t = some (.tup [.int (j5 es),.int (mV es)]) at ht;rw [<- d2,<- d3] at ht;have qq:=fun H' (s:Same H1 H')=>q H' (Same.tr s s1)
  clear q hp en Lf s1 Jk Jl e1 e2;unfold textOf at qq;generalize jP es = ds at *;lcg_off;refine ie f5 ?_;refine aS (by rw [HX,sizeLine_eq];omega) ?_;generalize KS:Str.ofString (toString ((4 * ds.length:Nat):Int)) ++ Str.ofString ":" = z0 at *;have KR:z0.length <= 7:=by rw [<- KS,la,HX];omega
  lcg_off;refine forR (fun i σ F=>∃ (o4:Option V),σ = [some (.ref p),some (.int ((4 * ds.length:Nat):Int)),some (.int (val (ds.drop i))),some (.str (z0 ++ sg (ds.take i))),o4]/\F = H1)
   ⟨none,by rw [List.take_zero,List.drop_zero,show sg [] = Str.ofString "" by decide +kernel,kI],rfl⟩ (fun i σ F hi h=>?_) (fun σ F h=>?_)
  ·obtain ⟨o4,rfl,rfl⟩:=h;have xY:i < ds.length:=by omega
   obtain ⟨d,hd⟩:∃ d,ds[i]? = some d:=⟨_,List.getElem?_eq_getElem xY⟩;obtain ⟨v1,v2⟩:=zJ d1.1 hd;have hd6:=d1.1 d (List.mem_of_getElem? hd);have Nd:=(List.getElem?_eq_some_iff.mp hd).2;lcg_off;rw [v1];refine rH (by decide +kernel) (Gk d hd6) ?_;have l1:(z0 ++ sg (ds.take i)).length <= 500:=by rw [la,dM,List.length_take];omega
   refine aS (by rw [show (⟨#[97 + d]⟩:Str).length = 1 from rfl,sizeLine_eq];omega) ?_;lcg_off;rw [v2];refine ⟨some (.int (0 + (i:Int))),?_,rfl⟩;rw [List.take_succ_eq_append_getElem xY,Nd,<- Ay,<- ap]
   rfl
  ·obtain ⟨o4,rfl,rfl⟩:=h;rw [show ((((4 * ds.length:Nat):Int) / 4).toNat) = ds.length by omega,List.take_length];lcg_off;exact qq _ (Same.refl _)
theorem D8 (es:List Ent) (hp:H p = some (.lst xs)) (en:Reps H (es.map aK) xs) (hok:pG es) (q:∀ H',Same H H'->Q (.str (textOf (jP es))) H'):E2 K [.ref p] H Q E:=⟨p,xs,es,rfl,hp,en,hok,q⟩
theorem oC (zs:List Str) (hp:H p = some (.lst (zs.map V.str))) (hl:zs.length <= 1000) (hs:hZ zs <= 1000000) (q:∀ l H',Same H H'->H' l = some (.lst ((zs.map fun z=>z ++ Str.ofString "\n").map V.str))->Q (.ref l) H'):CB (EO K p) [] σ tH (yn (ij K) (pM 0) (tC (V.str (Str.ofString "\n")))) Q H:=by
 refine Bx (xs:=zs.map V.str) (fun i ys H'=>H' = H/\i <= zs.length/\ys = ((zs.take i).map fun z=>z ++ Str.ofString "\n").map V.str) (by rw [sizeLine_eq,List.length_map];omega) ⟨rfl,Nat.zero_le _,rfl⟩ (fun i ys H' h=>⟨h.1 ▸ SqL.of hp,?_⟩) (fun i v ys H' hv h=>?_) (fun ys p' H' H3 h pJ sp vM=>?_)
 ·rw [h.2.2,List.length_map,List.length_map,List.length_take];have:=h.2.1;omega
 ·obtain ⟨rfl,hi,rfl⟩:=h;rw [List.getElem?_map] at hv
  cases hz:zs[i]? with
  | none=>rw [hz] at hv;cases hv
  | some z =>
   rw [hz] at hv;obtain rfl:=Option.some.inj hv;have eQ:i < zs.length:=(List.getElem?_eq_some_iff.mp hz).1;have KR:=sh (List.mem_of_getElem? hz);lcg_off;refine aS (by rw [rZ,sizeLine_eq];omega) ⟨rfl,by omega,?_⟩;rw [List.take_add_one,hz,List.map_append,List.map_append]
   rfl
 ·obtain ⟨rfl,_,rfl⟩:=h;rw [List.length_map,List.take_length] at vM;exact q _ _ sp vM
theorem rF {l:Addr} (zs:List Str) (hl:H l = some (.lst ((zs.map fun z=>z ++ Str.ofString "\n").map V.str))) (h1:zs.length <= 1000) (h2:hZ zs <= 1000000) (q:Q (.str (bU zs)) H):rJoin K (.str (Str.ofString "")) [.ref l] H Q:=by
 refine ⟨_,l,zs.map fun z=>z ++ Str.ofString "\n",rfl,rfl,SqL.of hl,?_,?_⟩
 ·rw [le_empty,Nat.mul_zero,Nat.add_zero,sum_rows];omega
 rw [join_rows];exact q
def xw (K:W.Frag):Sp:=fun vs H Q _=>∃ (p:Addr) (xs:List V) (es:List Ent),vs = [.ref p]/\H p = some (.lst xs)/\Reps H (es.map aK) xs/\pG es/\∀ l H',Same H H'->H' l = some (.lst ((fQ es).map V.str))->Q (.ref l) H'
theorem jm:ao ["_law_entries","_law_lines_here"] ["_law_entries"] (aa bB):=⟨rfl,rfl,rfl,by decide +kernel,rfl,by decide +kernel,by decide +kernel⟩
theorem pS (T:Txt K mg) (N:Fn K mg "_law_lines" bB ["_law_entries"] f fd):FnOk P w K mg base cB (4) f fd ["_law_entries"] (xw K):=by
 obtain ⟨_,_,gr⟩:=T.f__law_sieve_row;have lU:=kj (P:=P) (w:=w) (base:=base) T gr;obtain ⟨_,_,pj⟩:=T.f__law_row;have xn:=uu (P:=P) (w:=w) (base:=base) T pj;obtain ⟨_,_,dF⟩:=T.f__law_check;have gS:=jn (P:=P) (w:=w) (base:=base) T dF;refine N.fu.okB jm (fun vs H Q E h=>?_) (fun bA A outer s H vs Q E hr h=>?_)
 ·obtain ⟨p,xs,es,rfl,_⟩:=h
  rfl
 ·obtain ⟨p,xs,es,rfl,hp,en,hok,q⟩:=h;have hl:=en.length;rw [List.length_map] at hl;have hn:=cX (n:=es.length) (k:=3) (by have:=hok.2.2;omega) (by decide);have Lf:=hok.2.2;have hs:=fV hok;refine ⟨_,(af (ak (i:=1) jm.nd rfl (by first | exact Or.inl rfl | exact Or.inr rfl) (ar aG (fj (ag (ar aG b_str (yc mh T.b_str (by kernel_rfl) (ag (dH bO T.b_len (by kernel_rfl) (ag (bv 0) ae rfl)) ae rfl))) (ag (bT gr lU (hr.mono (by first | decide | omega)) (ag (bv 0) ae rfl)) ae rfl) rfl)) (jh (x:="_law_entry") (ix:=[]) (fv:=[]) (osc:=aa bB) rfl ⟨rfl,by decide +kernel,by decide +kernel,by rfl,by decide +kernel,by decide +kernel,by decide +kernel⟩ (by rfl) (d5 (bv 0)) (fun _ _ _ _=>dA) (fun _ _ _ _=>(bT pj xn (hr.mono (by first | decide | omega)) (ag (bv 0) ae rfl))))))
  (ah (ai (ar aG (bv 1) (fj (ag (ar aG b_str (yc mh T.b_str (by kernel_rfl) (ag (bT dF gS (hr.mono (by first | decide | omega)) (ag (kE b_str (ag (jh (x:="_law_line") (ix:=[]) (fv:=[]) (osc:=aa bB) rfl ⟨rfl,by decide +kernel,by decide +kernel,by rfl,by decide +kernel,by decide +kernel,by decide +kernel⟩ (by rfl) (d5 (bv 1)) (fun _ _ _ _=>dA) (fun _ _ _ _=>(ar (rW (K:=K) rfl) (bv 0) b_str))) ae rfl)) ae rfl)) ae rfl))) ae rfl)))))),?_⟩
  kas_types;lcg_off;rw [<- hl];refine ie (cG _ (by omega)) ?_;rw [bY];refine aS (by rw [gC,sizeLine_eq];omega) ?_;lcg_off;refine D8 es hp en hok (fun H0 s0=>?_);lcg_off;rename_i p1 H1 FC MP CO;obtain ⟨L,l1,l2,l3⟩:=dz en;have Xo:Same H H1:=Same.tr MP s0;refine Bx (xs:=xs) (fun i us F=>F = H1/\us = ((es.take i).map fZ).map V.str/\i <= es.length) (by rw [<- hl,sizeLine_eq];omega) ⟨rfl,rfl,Nat.zero_le _⟩ (fun i us F h=>⟨h.1 ▸ SqL.of (Xo _ _ hp),by rw [h.2.1,List.length_map,List.length_map,List.length_take];have:=h.2.2;omega⟩) (fun i v us F hv h=>?_) (fun us p2 F H2 h pI NP mS=>?_)
  ·obtain ⟨rfl,rfl,_⟩:=h;rw [<- l2,List.getElem?_map] at hv;obtain ⟨te,Fz,rfl⟩:=Option.map_eq_some_iff.mp hv;have ID:es[i]? = some te.1:=by rw [<- l1,List.getElem?_map,Fz];rfl
   obtain ⟨oI,xY⟩:=List.getElem?_eq_some_iff.mp ID;lcg_off;refine vc te.1 ((l3 te (List.mem_of_getElem? Fz)).same Xo) (hok.1 _ (List.mem_of_getElem? ID)) ?_;lcg_off;exact ⟨rfl,by rw [List.take_succ_eq_append_getElem oI,xY,List.map_append,List.map_append];rfl,oI⟩
  obtain ⟨rfl,rfl,_⟩:=h;rw [<- hl,List.take_length] at mS;lcg_off;refine nq (NP _ _ CO) mS (by rw [List.length_map,List.length_map,sizeLine_eq];show 2 + es.length <= _;omega) (fun p3 H3 X1 ZY vM=>?_)
  change H3 p3 = some (.lst ((fY es).map V.str)) at vM;lcg_off;refine ⟨rfl,?_⟩;lcg_off;refine oC (fY es) vM (by omega) (by omega) (fun p4 H4 Xl hl4=>?_)
  lcg_off;refine rF (fY es) hl4 (by omega) (by omega) ?_;lcg_off;refine ⟨_,rfl,?_⟩;obtain ⟨c1,c2⟩:=sN (bz es);obtain ⟨n,hc⟩:=Int.eq_ofNat_of_zero_le c1;have tf:=cX (n:=n) (k:=4) (by omega) (by decide);have p9:gI (bz es) = Str.ofString "end " ++ bZ n:=by unfold gI;rw [hc];rfl
  rw [show zv (bU (fY es)) = (n:Int) from hc];lcg_off;refine ie (cG _ (by omega)) ?_;rw [bY];refine aS (by rw [km,sizeLine_eq];omega) ?_;rw [<- p9];lcg_off;rename_i p5 H5 X0 Xk FE;refine nq (Xk _ _ (Xl _ _ vM)) FE (by rw [List.length_map,hs.2,sizeLine_eq];show es.length + 2 + 1 <= _;omega) (fun p6 H6 hp6 ZX Nb=>?_);exact q p6 H6 (by lcg_sub) (by unfold fQ;rw [List.map_append];exact Nb)
theorem qG (es:List Ent) (hp:H p = some (.lst xs)) (en:Reps H (es.map aK) xs) (hok:pG es) (q:∀ l H',Same H H'->H' l = some (.lst ((fQ es).map V.str))->Q (.ref l) H'):xw K [.ref p] H Q E:=⟨p,xs,es,rfl,hp,en,hok,q⟩
theorem ye (h:pG es):(fQ es).length <= 1000/\hZ (fQ es) <= 1000000:=by
 have h1:=fV h;have h2:=kx (bz es);have h3:=h.2.2;unfold fQ;refine ⟨by rw [List.length_append,List.length_singleton];omega,?_⟩;unfold hZ at *;rw [List.map_append,List.sum_append];show _ + ((gI (bz es)).length + 0) <= _;omega
end
section
theorem RunAt.same (h:RunAt H r es) (s:Same H H'):RunAt H' r es:=by
 obtain ⟨t,pu,xs,h1,h2,h3,h4⟩:=h;exact ⟨t,pu,xs,s _ _ h1,s _ _ h2,s _ _ h3,h4.same s⟩
def ListAt (H:Hp) (p:Addr) (es:List Ent):Prop:=∃ xs,H p = some (.lst xs)/\Reps H (es.map aK) xs
theorem ListAt.same (h:ListAt H p es) (s:Same H H'):ListAt H' p es:=by
 obtain ⟨xs,h1,h2⟩:=h;exact ⟨xs,s _ _ h1,h2.same s⟩
theorem ListAt.sameN (h:ListAt H p es) (s:SameN H H'):ListAt H' p es:=by
 obtain ⟨xs,h1,h2⟩:=h;exact ⟨xs,s _ _ h1 (fun _ z=>by cases z),Reps.sameN s h2⟩
theorem nU (es:List Ent) (h:RunAt H r es) (hp:ListAt H p es) (hok:pG es) (q:∀ H1,Same H H1->Q (.bl true) H1):kU K [.ref r,.ref p] H Q E:=by
 obtain ⟨t,pu,xs,h1,h2,h3,h4⟩:=h;obtain ⟨ys,h5,h6⟩:=hp;exact t8 es h1 h2 h3 h4 h5 h6 (by have:=hok.2.2;omega) hok.2.1 q
theorem jk (es:List Ent) (hp:ListAt H p es) (hok:pG es) (q:∀ t H1,Same H H1->H1 t = some (.tup [.int (j5 es),.int (mV es)])->Q (.ref t) H1):rA K [.ref p] H Q E:=by
 obtain ⟨xs,hp,en⟩:=hp;refine qx es hp en (by have:=hok.2.2;omega) hok.2.1 (fun t H1 zs s1 ht Jk Jl=>q t H1 s1 ?_)
 obtain ⟨e1,e2⟩:=nP (ks:=es.map (·.1)) Jk (fun z=>by rw [Jl,List.mem_map]) (by rw [List.length_map];exact hok.2.1)
 rw [<- e1,<- e2] at ht;exact ht
def xx (K:W.Frag):Sp:=fun vs H Q _=>∃ (a:Addr) (ns:List Int),vs = [.ref a]/\SqL K H a (ns.map V.int)/\ns.length <= 63/\EL H/\gj H/\∀ H',Q (.bl true) H'
theorem h9:ao ["_law_script","_law_entries","_law_run","_law_due","_law_told","_law_other","_law_text","_law_number"] ["_law_script"] (aa lW):=⟨rfl,rfl,rfl,by decide +kernel,rfl,by decide +kernel,by decide +kernel⟩
theorem HN (T:Txt K mg) (vO:∀ p ∈ tabs,base.BuiltinsAt mg p) (kIn:K.In base) (N:Fn K mg "law" lW ["_law_script"] f fd):FnOk P w K mg base cB (15) f fd ["_law_script"] (xx K):=by
 obtain ⟨_,_,fA⟩:=T.f__law_rows_by;have iM:=mO (P:=P) (w:=w) (base:=base) T vO kIn fA;obtain ⟨_,_,gN⟩:=T.f_run_text;have jV:=uk (P:=P) (w:=w) (base:=base) T gN;obtain ⟨_,_,fz⟩:=T.f_check_of;have jW:=lX (P:=P) (w:=w) (base:=base) T fz;obtain ⟨_,_,bE⟩:=T.f__law_sieve;have cY:=fN (P:=P) (w:=w) (base:=base) T bE;obtain ⟨_,_,dj⟩:=T.f__law_run_same;have eI:=lD (P:=P) (w:=w) (base:=base) T dj;obtain ⟨_,_,dF⟩:=T.f__law_check;have gS:=jn (P:=P) (w:=w) (base:=base) T dF;obtain ⟨_,_,fq⟩:=T.f_read_run;have gR:=um (P:=P) (w:=w) (base:=base) T vO kIn fq;obtain ⟨_,_,gO⟩:=T.f__law_lines;have kO:=pS (P:=P) (w:=w) (base:=base) T gO;obtain ⟨_,_,bR⟩:=T.f__law_cell_at;have cV:=gW (P:=P) (w:=w) (base:=base) T bR;refine N.fu.okB h9 (fun vs H Q E h=>?_) (fun bA A outer s H vs Q E hr h=>?_)
 ·obtain ⟨a,ns,rfl,_⟩:=h
  rfl
 ·obtain ⟨a,ns,rfl,hS,hn,ht,MN,k⟩:=h;refine ⟨_,(af (ak (i:=1) h9.nd rfl (by first | exact Or.inl rfl | exact Or.inr rfl) (bT fA iM (hr.mono (by first | decide | omega)) (ag (bv 0) (ag b_int ae rfl) rfl)))
  (af (ak (i:=2) h9.nd rfl (by first | exact Or.inl rfl | exact Or.inr rfl) (fJ (ag (bT bE cY (hr.mono (by first | decide | omega)) (ag (bv 1) ae rfl)) (ag (yc sP T.b_tuple (by kernel_rfl) (ag (bv 1) ae rfl)) ae rfl) rfl)))
  (af (ak (i:=3) h9.nd rfl (by first | exact Or.inl rfl | exact Or.inr rfl) (kE b_str (ag (jh (x:="_law_line") (ix:=[]) (fv:=[]) (osc:=aa lW) rfl ⟨rfl,by decide +kernel,by decide +kernel,by rfl,by decide +kernel,by decide +kernel,by decide +kernel⟩ (by rfl) (d5 (bT gO kO (hr.mono (by first | decide | omega)) (ag (bv 1) ae rfl))) (fun _ _ _ _=>dA) (fun _ _ _ _=>(ar (rW (K:=K) rfl) (bv 0) b_str))) ae rfl)))
  (af (ak (i:=4) h9.nd rfl (by first | exact Or.inl rfl | exact Or.inr rfl) (bT gN jV (hr.mono (by first | decide | omega)) (ag (bv 2) ae rfl)))
  (af (aH (gM (eJ (cH (bC (dH bP T.b_isinstance (by kernel_rfl) (ag (bv 4) (ag (jg (T:="str") T.b_str (by kernel_rfl)) ae rfl) rfl)) (fun _=>rfl))) (eJ (aB (d9 (aD hr)) (bv 4) (bv 3) (aw _)) (eE (cH (bC (bT dj eI (hr.mono (by first | decide | omega)) (ag (bT fq gR (hr.mono (by first | decide | omega)) (ag (bv 3) ae rfl)) (ag (bv 1) ae rfl) rfl)) (fun _=>rfl)))))))
   (ah (ai hW))
   av)
  (af (ak (i:=5) h9.nd rfl (by first | exact Or.inl rfl | exact Or.inr rfl) (bT fA iM (hr.mono (by first | decide | omega)) (ag (bv 0) (ag b_int ae rfl) rfl)))
  (af (ak (i:=6) h9.nd rfl (by first | exact Or.inl rfl | exact Or.inr rfl) (kE b_str (ag (jh (x:="_law_line") (ix:=[]) (fv:=[]) (osc:=aa lW) rfl ⟨rfl,by decide +kernel,by decide +kernel,by rfl,by decide +kernel,by decide +kernel,by decide +kernel⟩ (by rfl) (d5 (bT gO kO (hr.mono (by first | decide | omega)) (ag (bv 5) ae rfl))) (fun _ _ _ _=>dA) (fun _ _ _ _=>(ar (rW (K:=K) rfl) (bv 0) b_str))) ae rfl)))
  (af (aH (gM (eJ (aB (d9 (aD hr)) (bT gN jV (hr.mono (by first | decide | omega)) (ag (fJ (ag (bT bE cY (hr.mono (by first | decide | omega)) (ag (bv 5) ae rfl)) (ag (yc sP T.b_tuple (by kernel_rfl) (ag (bv 5) ae rfl)) ae rfl) rfl)) ae rfl)) (bv 6) (aw _)) (eE (cH (bC (bT dj eI (hr.mono (by first | decide | omega)) (ag (bT fq gR (hr.mono (by first | decide | omega)) (ag (bv 6) ae rfl)) (ag (bv 5) ae rfl) rfl)) (fun _=>rfl))))))
   (ah (ai hW))
   av)
  (af (ak (i:=7) h9.nd rfl (by first | exact Or.inl rfl | exact Or.inr rfl) (bT fz jW (hr.mono (by first | decide | omega)) (ag (bS dI (bv 6) cf (bD (ar aN (bT bR cV (hr.mono (by first | decide | omega)) (ag (bv 0) (ag b_int ae rfl) rfl)) (ar aG (dH bO T.b_len (by kernel_rfl) (ag (bv 6) ae rfl)) b_int)))) ae rfl)))
  (af (aH (gM (eJ (bC (dH bP T.b_isinstance (by kernel_rfl) (ag (bv 7) (ag (jg (T:="bool") T.b_bool (by kernel_rfl)) ae rfl) rfl)) (fun _=>rfl)) (eE (aB (d9 (aD hr)) (bv 7) (bT dF gS (hr.mono (by first | decide | omega)) (ag (bS dI (bv 6) cf (bD (ar aN (bT bR cV (hr.mono (by first | decide | omega)) (ag (bv 0) (ag b_int ae rfl) rfl)) (ar aG (dH bO T.b_len (by kernel_rfl) (ag (bv 6) ae rfl)) b_int)))) ae rfl)) (aw _)))))
   (ah (ai hW))
   av)
  (ah (ai (mi (gi (cZ (aD hr)) (bT gN jV (hr.mono (by first | decide | omega)) (ag (bT fq gR (hr.mono (by first | decide | omega)) (ag (bv 3) ae rfl)) ae rfl)) (bv 3) (aw _)) (kF (bT dj eI (hr.mono (by first | decide | omega)) (ag (bT fq gR (hr.mono (by first | decide | omega)) (ag (bv 4) ae rfl)) (ag (bv 1) ae rfl) rfl)))))))))))))))),?_⟩
  kas_types;lcg_off;refine nX 0 rfl hS ht (fun xs es p H1 rise hok hl CO s1 BN hp en=>?_);have CL:pG es:=⟨hok,CO,hl⟩;have LA:ListAt H1 p es:=⟨xs,hp,en⟩;have FV:=MN.sameB s1 (by decide) ht.tbl;obtain ⟨qs,hT⟩:=ht.tbl;have Lo:=SqL.sameN hS (s1.toN hT);obtain ⟨YG,YF⟩:=ye CL;clear hok hl CO hp en ht hS MN s1 hT;lcg_off;refine jk es LA CL (fun t H2 s2 M7=>?_);obtain ⟨ZN,pI,BY⟩:=LA.same s2;lcg_off;refine lp (SqL.of pI) (fun pu H3 sZ s3 h3=>?_);lcg_off;rename_i r H4 s4 XX;have RA:RunAt H4 r es:=⟨t,pu,ZN,XX,s4 _ _ (s3 _ _ M7),s4 _ _ h3,(BY.same s3).same s4⟩;have Xs:Same H1 H4:=Same.tr s4 (Same.tr s3 s2);refine ⟨rfl,?_⟩;lcg_off;refine qG es (s4 _ _ (s3 _ _ pI)) ((BY.same s3).same s4) CL (fun l5 H5 s5 FE=>?_);lcg_off;refine oC (fQ es) FE YG YF (fun l6 H6 s6 Nb=>?_);lcg_off;refine rF (fQ es) Nb YG YF ?_;rw [<- iQ];have OH:Same H4 H6:=Same.tr s6 s5;have JR:Same H1 H6:=Same.tr OH Xs;have YN:=RA.same OH;have YU:=LA.same JR;have Jh:=FV.same JR;have KW:=BN.same JR;have Ya:=Lo.same JR;clear Nb FE OH JR Xs RA LA FV BN Lo s2 s3 s4 s5 s6 XX h3 sZ pI BY M7;lcg_off;refine nW es YN CL (fun H7 s7=>?_);lcg_off;refine dE (fun h=>absurd rfl h) (fun _=>?_);lcg_off;refine j9 es CL rise (Jh.same s7) (fun r8 H8 s8 FU MC=>?_);obtain ⟨_,Lm⟩:=(Jh.same s7).tbl;have n8:=s8.toN Lm;have Jy:=(YU.same s7).sameN n8;have M6:=(KW.same s7).sameB s8 (by decide) (Jh.same s7).tbl;have Ln:=SqL.sameN (Ya.same s7) n8;clear YN YU Jh KW Ya s7 s8 Lm n8;lcg_off;refine nU es MC Jy CL (fun H9 s9=>?_);have MG:=Jy.same s9;have EU:=FU.same s9;have M5:=M6.same s9;have IF:=Ln.same s9;clear Jy FU M6 Ln MC s9;lcg_off;refine nX 2 rfl IF M5 (fun ys fs p' G1 JT BV X3 K6 u1 BN pJ X4=>?_);have HM:pG fs:=⟨BV,K6,X3⟩;have MA:ListAt G1 p' fs:=⟨ys,pJ,X4⟩;have FV:=EU.sameB u1 (by decide) M5.tbl;obtain ⟨_,X9⟩:=M5.tbl;have n1:=u1.toN X9;have Lo:=SqL.sameN IF n1;have YW:=MG.sameN n1;obtain ⟨YB,YA⟩:=ye HM;clear BV X3 K6 pJ X4 M5 IF EU u1 X9 n1 MG;lcg_off;refine ⟨rfl,?_⟩;lcg_off;obtain ⟨ys1,FC,Lb⟩:=id MA;refine qG fs FC Lb HM (fun l2 G2 u2 mS=>?_)
  lcg_off;refine oC (fQ fs) mS YB YA (fun l3 G3 u3 vM=>?_);lcg_off;refine rF (fQ fs) vM YB YA ?_;rw [<- iQ];have Jf:Same G1 G3:=Same.tr u3 u2;have MM:=FV.same Jf;have XT:=BN.same Jf;have Yb:=Lo.same Jf;have YV:=YW.same Jf;have Nt:=MA.same Jf;clear Jf FV BN Lo YW MA u2 u3 mS vM FC Lb;lcg_off;refine jk fs Nt HM (fun t' G4 u4 XS=>?_);obtain ⟨ZM,Jp,La⟩:=Nt.same u4;lcg_off;refine lp (SqL.of Jp) (fun pu' G5 SS u5 h5=>?_);lcg_off;rename_i r' G6 u6 XW;refine nW fs ⟨t',pu',ZM,XW,u6 _ _ (u5 _ _ XS),u6 _ _ h5,(La.same u5).same u6⟩ HM (fun G7 u7=>?_);have Je:Same G3 G7:=Same.tr u7 (Same.tr u6 (Same.tr u5 u4));have Jg:=MM.same Je;have XR:=XT.same Je;have X':=Yb.same Je;have YT:=YV.same Je;have YS:=Nt.same Je;clear Je MM XT Yb YV Nt u4 u5 u6 u7 XW h5 SS Jp La XS;lcg_off;refine dE (fun h=>absurd rfl h) (fun _=>?_);lcg_off;refine j9 fs HM JT Jg (fun r8 G8 u8 FU MC=>?_);obtain ⟨_,Lm⟩:=Jg.tbl;have n8:=u8.toN Lm;have Jy:=YT.sameN n8;have YR:=YS.sameN n8;have M6:=XR.sameB u8 (by decide) Jg.tbl;have Ln:=SqL.sameN X' n8;clear YT YS Jg XR X' u8 Lm n8;lcg_off;refine nU fs MC YR HM (fun G9 u9=>?_);have MG:=Jy.same u9;have EU:=FU.same u9;have IF:=Ln.same u9;clear Jy YR FU M6 Ln MC u9;have tl:(hX fs).length <= sizeLine:=by
   have h1:=jb HM;have h2:=ky (bz fs);unfold hX;rw [la,sizeLine_eq];omega
  lcg_off;refine kB (k:=4) IF rfl ?_;lcg_off;refine eY tl ?_;lcg_off;refine ⟨_,rfl,?_⟩;lcg_off;refine kB (k:=4) IF rfl ?_;lcg_off;refine eY tl ?_;lcg_off;refine ⟨_,rfl,?_⟩;lcg_off;refine dE (fun h=>absurd rfl h) (fun _=>?_);lcg_off;refine j9 es CL rise EU (fun ra F1 v1 Xe RAa=>?_);obtain ⟨_,X8⟩:=EU.tbl;have LAa:=MG.sameN (v1.toN X8);clear MG EU IF v1 X8;lcg_off;refine nW es RAa CL (fun F2 v2=>?_);lcg_off;refine aF (fun _=>?_) (fun h=>absurd rfl h);lcg_off;refine j9 es CL rise (Xe.same v2) (fun rb F3 v3 tkb RAb=>?_);obtain ⟨_,hTb⟩:=(Xe.same v2).tbl;have LAb:=(LAa.same v2).sameN (v3.toN hTb);lcg_off;exact nU es RAb LAb CL (fun F4 v4=>k F4)
end
theorem all_mk {l : W.OpenLaw} {h : Heap} {fa f1 f2 f3 f4 f5 f6 f7 f8 f9 UK UJ UI UH UG UE UD UC UB UA Uz Uy Ux Uw Uv Uu Ut Us Ur Uq Up Uo Um Ul Uk Uj Ui Uh Ug Ue Uc Ub Ua T' T9 T8 T7 T6 T5 T4 T3 T2 T1 TZ TY TX TV : Addr} (X : K.In h) (G : h.Ns mainGlobals mg) (El : mg "law" = some (.ref fa))
    {od1 an1:Option Addr} {Z6:Array (Option Value)} {oc1 kV1 dc1 DG Yz ct1:Value}
    {od2 an2:Option Addr} {E8:Array (Option Value)} {oc2 kV2 dc2 Pn Yy ct2:Value}
    {od3 an3:Option Addr} {Z5:Array (Option Value)} {oc3 kV3 dc3 vL Yx ct3:Value}
    {od4 an4:Option Addr} {Z4:Array (Option Value)} {oc4 kV4 dc4 pm4 Yw ct4:Value}
    {od5 an5:Option Addr} {Z3:Array (Option Value)} {oc5 kV5 dc5 pm5 Yv ct5:Value}
    {od6 an6:Option Addr} {Z2:Array (Option Value)} {oc6 kV6 dc6 pm6 Yu ct6:Value}
    {od7 an7:Option Addr} {Z1:Array (Option Value)} {oc7 kV7 dc7 pm7 Yt ct7:Value}
    {od8 an8:Option Addr} {Z0:Array (Option Value)} {oc8 kV8 dc8 pm8 Ys ct8:Value}
    {od9 an9:Option Addr} {ZZ:Array (Option Value)} {oc9 kV9 dc9 pm9 Yr ct9:Value}
    {QC Xa:Option Addr} {OF:Array (Option Value)} {Rp Su Vy Pz Mw Wk:Value}
    {QB W':Option Addr} {OE:Array (Option Value)} {Ro Ss Vx Py Mv Wj:Value}
    {QA W9:Option Addr} {OD:Array (Option Value)} {Rn Sr Vw Px Mu Wi:Value}
    {Qz W8:Option Addr} {OC:Array (Option Value)} {Rm Sq Vv Pw Mt Wh:Value}
    {Qy W7:Option Addr} {OB:Array (Option Value)} {Rl So Vu Pu Mr Wg:Value}
    {Qx W6:Option Addr} {OA:Array (Option Value)} {Rk Sn Vt Pt Mq Wf:Value}
    {Qw W5:Option Addr} {Oz:Array (Option Value)} {Rj Sm Vs Pr Mp We:Value}
    {Qv W4:Option Addr} {Oy:Array (Option Value)} {Ri Sl Vr Pq Mo Wd:Value}
    {Qu W3:Option Addr} {Ox:Array (Option Value)} {Rh Sk Vq Pp Wc:Value}
    {Qt W2:Option Addr} {Ow:Array (Option Value)} {Rg Sj Vp Po Mn Wb:Value}
    {Qs W0:Option Addr} {Ov:Array (Option Value)} {Rf Si Vo Pm Mm Wa:Value}
    {Qr WZ:Option Addr} {Ou:Array (Option Value)} {Rc Sh Vn Pl Ml V':Value}
    {Qq WY:Option Addr} {Ot:Array (Option Value)} {Rb Sg Vm Pk Mk V9:Value}
    {Qp WX:Option Addr} {Oq:Array (Option Value)} {Ra Sf Vl Pj Mj V8:Value}
    {Qo WW:Option Addr} {Oo:Array (Option Value)} {Q9 Se Vk Ph Mi V7:Value}
    {Qn WV:Option Addr} {Om:Array (Option Value)} {Q8 Sd Vj Pg Mh V6:Value}
    {Qm WU:Option Addr} {Ol:Array (Option Value)} {Q7 Sb Vi Pf Mg V5:Value}
    {Ql WT:Option Addr} {Oj:Array (Option Value)} {Q6 R' Vh Pe Mf V4:Value}
    {Qk WS:Option Addr} {Oi:Array (Option Value)} {Q5 R9 Vg Pd Me V3:Value}
    {Qj WR:Option Addr} {Oh:Array (Option Value)} {Q4 R8 Vf Pc Mc V2:Value}
    {Qi WQ:Option Addr} {Og:Array (Option Value)} {Q3 R7 Ve Pb Mb V1:Value}
    {Qh WO:Option Addr} {Of:Array (Option Value)} {Q2 R6 Vd Pa Ma V0:Value}
    {Qg WN:Option Addr} {Oe:Array (Option Value)} {Q1 R5 Vc O' L9 VZ:Value}
    {Qf WM:Option Addr} {Od:Array (Option Value)} {Q0 R0 Vb O9 L8 VY:Value}
    {Qe WL:Option Addr} {Oc:Array (Option Value)} {QZ RZ Va O8 L7 VX:Value}
    {Qd WK:Option Addr} {Ob:Array (Option Value)} {QY RY U9 O7 L6 VW:Value}
    {Qc WJ:Option Addr} {Oa:Array (Option Value)} {QX RX U8 O6 L5 VV:Value}
    {Qb WI:Option Addr} {N9:Array (Option Value)} {QW RW U7 O5 L4 VU:Value}
    {Qa WH:Option Addr} {N8:Array (Option Value)} {QV RV U6 O4 L3 VT:Value}
    {P9 WG:Option Addr} {N7:Array (Option Value)} {QU RU U5 O3 LZ VS:Value}
    {P8 WE:Option Addr} {N6:Array (Option Value)} {QT RT U4 O2 LY VR:Value}
    {P7 WD:Option Addr} {N5:Array (Option Value)} {QS RS U3 O1 LX VQ:Value}
    {P6 WC:Option Addr} {N4:Array (Option Value)} {QR RR U2 O0 LW VP:Value}
    {P5 WB:Option Addr} {N3:Array (Option Value)} {QQ RQ U1 OZ LV VO:Value}
    {P4 WA:Option Addr} {N2:Array (Option Value)} {QP RP U0 OY LU VN:Value}
    {P2 Wz:Option Addr} {N1:Array (Option Value)} {QO RO UZ OX LS VM:Value}
    {P1 Wy:Option Addr} {N0:Array (Option Value)} {QN RN UY OW VL:Value}
    {P0 Wx:Option Addr} {NZ:Array (Option Value)} {QM RM UX OV LR VJ:Value}
    {PZ Ww:Option Addr} {NY:Array (Option Value)} {QL RL UW OU LQ VI:Value}
    {PY Wv:Option Addr} {NX:Array (Option Value)} {QK RJ UU OT LP VH:Value}
    {PX Wu:Option Addr} {NW:Array (Option Value)} {QJ RI UT OS LO VG:Value}
    {PV Wt:Option Addr} {NV:Array (Option Value)} {QI RH US OR LN VF:Value}
    {PU Ws:Option Addr} {NU:Array (Option Value)} {QH RG UR OQ LM VE:Value}
    {PR Wr:Option Addr} {NT:Array (Option Value)} {QG RF UQ OP LL VD:Value}
    {PQ Wq:Option Addr} {NS:Array (Option Value)} {QF RE UP OO LK VC:Value}
    {PN Wo:Option Addr} {NR:Array (Option Value)} {QE RD UO ON LJ VB:Value}
    {PM Wn:Option Addr} {NQ:Array (Option Value)} {QD RC UN OM LH VA:Value}
    {MN:Tok}
    {FV:Tok}
    {ZU:Tok}
    {MM:Tok}
    {ZT:Tok}
    {ZS:Tok}
    {Jh:Tok}
    {Jg:Tok}
    {FU:Tok}
    {EU:Tok}
    {NJ:Tok}
    {NI:Tok}
    {NH:Tok}
    {NG:Tok}
    {NF:Tok}
    {ND:Tok}
    {NC:Tok}
    {NB:Tok}
    (a1:W.nsIn K mainGlobals "are_figures" = some (some (.ref f1))) (l1:K.lookup f1 = some ⟨oc1,od1,.func (W.fnOf "are_figures" "are_figures" (aq bG) (aj bG) (aa bG) .none kV1 dc1 DG an1 Yz ct1),Z6⟩) (c1:W.codeIn K Yz "are_figures" = true) (k1:W.keepIn K (.ref f1) = true)
    (a2:W.nsIn K mainGlobals "padded" = some (some (.ref f2))) (l2:K.lookup f2 = some ⟨oc2,od2,.func (W.fnOf "padded" "padded" (aq eW) (aj eW) (aa eW) .none kV2 dc2 Pn an2 Yy ct2),E8⟩) (c2:W.codeIn K Yy "padded" = true) (k2:W.keepIn K (.ref f2) = true)
    (a3:W.nsIn K mainGlobals "read_padded" = some (some (.ref f3))) (l3:K.lookup f3 = some ⟨oc3,od3,.func (W.fnOf "read_padded" "read_padded" (aq cg) (aj cg) (aa cg) .none kV3 dc3 vL an3 Yx ct3),Z5⟩) (c3:W.codeIn K Yx "read_padded" = true) (k3:W.keepIn K (.ref f3) = true)
    (a4:W.nsIn K mainGlobals "read_figures" = some (some (.ref f4))) (l4:K.lookup f4 = some ⟨oc4,od4,.func (W.fnOf "read_figures" "read_figures" (aq bI) (aj bI) (aa bI) .none kV4 dc4 pm4 an4 Yw ct4),Z4⟩) (c4:W.codeIn K Yw "read_figures" = true) (k4:W.keepIn K (.ref f4) = true)
    (a5:W.nsIn K mainGlobals "is_plain_text" = some (some (.ref f5))) (l5:K.lookup f5 = some ⟨oc5,od5,.func (W.fnOf "is_plain_text" "is_plain_text" (aq ba) (aj ba) (aa ba) .none kV5 dc5 pm5 an5 Yv ct5),Z3⟩) (c5:W.codeIn K Yv "is_plain_text" = true) (k5:W.keepIn K (.ref f5) = true)
    (a6:W.nsIn K mainGlobals "is_key" = some (some (.ref f6))) (l6:K.lookup f6 = some ⟨oc6,od6,.func (W.fnOf "is_key" "is_key" (aq eX) (aj eX) (aa eX) .none kV6 dc6 pm6 an6 Yu ct6),Z2⟩) (c6:W.codeIn K Yu "is_key" = true) (k6:W.keepIn K (.ref f6) = true)
    (a7:W.nsIn K mainGlobals "is_value" = some (some (.ref f7))) (l7:K.lookup f7 = some ⟨oc7,od7,.func (W.fnOf "is_value" "is_value" (aq dq) (aj dq) (aa dq) .none kV7 dc7 pm7 an7 Yt ct7),Z1⟩) (c7:W.codeIn K Yt "is_value" = true) (k7:W.keepIn K (.ref f7) = true)
    (a8:W.nsIn K mainGlobals "is_whole_number" = some (some (.ref f8))) (l8:K.lookup f8 = some ⟨oc8,od8,.func (W.fnOf "is_whole_number" "is_whole_number" (aq aX) (aj aX) (aa aX) .none kV8 dc8 pm8 an8 Ys ct8),Z0⟩) (c8:W.codeIn K Ys "is_whole_number" = true) (k8:W.keepIn K (.ref f8) = true)
    (a9:W.nsIn K mainGlobals "is_stamp" = some (some (.ref f9))) (l9:K.lookup f9 = some ⟨oc9,od9,.func (W.fnOf "is_stamp" "is_stamp" (aq dt) (aj dt) (aa dt) .none kV9 dc9 pm9 an9 Yr ct9),ZZ⟩) (c9:W.codeIn K Yr "is_stamp" = true) (k9:W.keepIn K (.ref f9) = true)
    (a10:W.nsIn K mainGlobals "is_entry" = some (some (.ref UK))) (l10:K.lookup UK = some ⟨Rp,QC,.func (W.fnOf "is_entry" "is_entry" (aq du) (aj du) (aa du) .none Su Vy Pz Xa Mw Wk),OF⟩) (c10:W.codeIn K Mw "is_entry" = true) (k10:W.keepIn K (.ref UK) = true)
    (a11:W.nsIn K mainGlobals "rank_of" = some (some (.ref UJ))) (l11:K.lookup UJ = some ⟨Ro,QB,.func (W.fnOf "rank_of" "rank_of" (aq dP) (aj dP) (aa dP) .none Ss Vx Py W' Mv Wj),OE⟩) (c11:W.codeIn K Mv "rank_of" = true) (k11:W.keepIn K (.ref UJ) = true)
    (a12:W.nsIn K mainGlobals "comes_ahead" = some (some (.ref UI))) (l12:K.lookup UI = some ⟨Rn,QA,.func (W.fnOf "comes_ahead" "comes_ahead" (aq cj) (aj cj) (aa cj) .none Sr Vw Px W9 Mu Wi),OD⟩) (c12:W.codeIn K Mu "comes_ahead" = true) (k12:W.keepIn K (.ref UI) = true)
    (a13:W.nsIn K mainGlobals "text_of_rows" = some (some (.ref UH))) (l13:K.lookup UH = some ⟨Rm,Qz,.func (W.fnOf "text_of_rows" "text_of_rows" (aq bq) (aj bq) (aa bq) .none Sq Vv Pw W8 Mt Wh),OC⟩) (c13:W.codeIn K Mt "text_of_rows" = true) (k13:W.keepIn K (.ref UH) = true)
    (a14:W.nsIn K mainGlobals "rows_of" = some (some (.ref UG))) (l14:K.lookup UG = some ⟨Rl,Qy,.func (W.fnOf "rows_of" "rows_of" (aq dO) (aj dO) (aa dO) .none So Vu Pu W7 Mr Wg),OB⟩) (c14:W.codeIn K Mr "rows_of" = true) (k14:W.keepIn K (.ref UG) = true)
    (a15:W.nsIn K mainGlobals "row_at" = some (some (.ref UE))) (l15:K.lookup UE = some ⟨Rk,Qx,.func (W.fnOf "row_at" "row_at" (aq eV) (aj eV) (aa eV) .none Sn Vt Pt W6 Mq Wf),OA⟩) (c15:W.codeIn K Mq "row_at" = true) (k15:W.keepIn K (.ref UE) = true)
    (a16:W.nsIn K mainGlobals "key_and_rest" = some (some (.ref UD))) (l16:K.lookup UD = some ⟨Rj,Qw,.func (W.fnOf "key_and_rest" "key_and_rest" (aq bK) (aj bK) (aa bK) .none Sm Vs Pr W5 Mp We),Oz⟩) (c16:W.codeIn K Mp "key_and_rest" = true) (k16:W.keepIn K (.ref UD) = true)
    (a17:W.nsIn K mainGlobals "read_key_and_rest" = some (some (.ref UC))) (l17:K.lookup UC = some ⟨Ri,Qv,.func (W.fnOf "read_key_and_rest" "read_key_and_rest" (aq aO) (aj aO) (aa aO) .none Sl Vr Pq W4 Mo Wd),Oy⟩) (c17:W.codeIn K Mo "read_key_and_rest" = true) (k17:W.keepIn K (.ref UC) = true)
    {Ck:Addr}
    (YL:W.nsIn K mainGlobals "probe" = some (some (.ref UB))) (l18:K.lookup UB = some ⟨Rh,Qu,.func (W.fnOf "probe" "probe" (aq eN) (aj eN) (aa eN) .none Sk Vq Pp W3 (.ref Ck) Wc),Ox⟩) (c18:W.codeIn K (.ref Ck) "probe" = true) (k18:W.keepIn K (.ref UB) = true)
    (LG:W.codeHdIn K Ck dB = true)
    (a19:W.nsIn K mainGlobals "places_of" = some (some (.ref UA))) (l19:K.lookup UA = some ⟨Rg,Qt,.func (W.fnOf "places_of" "places_of" (aq cq) (aj cq) (aa cq) .none Sj Vp Po W2 Mn Wb),Ow⟩) (c19:W.codeIn K Mn "places_of" = true) (k19:W.keepIn K (.ref UA) = true)
    (a20:W.nsIn K mainGlobals "sieve_of" = some (some (.ref Uz))) (l20:K.lookup Uz = some ⟨Rf,Qs,.func (W.fnOf "sieve_of" "sieve_of" (aq dm) (aj dm) (aa dm) .none Si Vo Pm W0 Mm Wa),Ov⟩) (c20:W.codeIn K Mm "sieve_of" = true) (k20:W.keepIn K (.ref Uz) = true)
    (a21:W.nsIn K mainGlobals "signs_of" = some (some (.ref Uy))) (l21:K.lookup Uy = some ⟨Rc,Qr,.func (W.fnOf "signs_of" "signs_of" (aq dk) (aj dk) (aa dk) .none Sh Vn Pl WZ Ml V'),Ou⟩) (c21:W.codeIn K Ml "signs_of" = true) (k21:W.keepIn K (.ref Uy) = true)
    (a22:W.nsIn K mainGlobals "bits_of" = some (some (.ref Ux))) (l22:K.lookup Ux = some ⟨Rb,Qq,.func (W.fnOf "bits_of" "bits_of" (aq dR) (aj dR) (aa dR) .none Sg Vm Pk WY Mk V9),Ot⟩) (c22:W.codeIn K Mk "bits_of" = true) (k22:W.keepIn K (.ref Ux) = true)
    (a23:W.nsIn K mainGlobals "sieve_text" = some (some (.ref Uw))) (l23:K.lookup Uw = some ⟨Ra,Qp,.func (W.fnOf "sieve_text" "sieve_text" (aq cv) (aj cv) (aa cv) .none Sf Vl Pj WX Mj V8),Oq⟩) (c23:W.codeIn K Mj "sieve_text" = true) (k23:W.keepIn K (.ref Uw) = true)
    (a24:W.nsIn K mainGlobals "read_size" = some (some (.ref Uv))) (l24:K.lookup Uv = some ⟨Q9,Qo,.func (W.fnOf "read_size" "read_size" (aq cN) (aj cN) (aa cN) .none Se Vk Ph WW Mi V7),Oo⟩) (c24:W.codeIn K Mi "read_size" = true) (k24:W.keepIn K (.ref Uv) = true)
    (a25:W.nsIn K mainGlobals "read_sieve" = some (some (.ref Uu))) (l25:K.lookup Uu = some ⟨Q8,Qn,.func (W.fnOf "read_sieve" "read_sieve" (aq bW) (aj bW) (aa bW) .none Sd Vj Pg WV Mh V6),Om⟩) (c25:W.codeIn K Mh "read_sieve" = true) (k25:W.keepIn K (.ref Uu) = true)
    (a26:W.nsIn K mainGlobals "sieve_of_entries" = some (some (.ref Ut))) (l26:K.lookup Ut = some ⟨Q7,Qm,.func (W.fnOf "sieve_of_entries" "sieve_of_entries" (aq aM) (aj aM) (aa aM) .none Sb Vi Pf WU Mg V5),Ol⟩) (c26:W.codeIn K Mg "sieve_of_entries" = true) (k26:W.keepIn K (.ref Ut) = true)
    (a27:W.nsIn K mainGlobals "check_of" = some (some (.ref Us))) (l27:K.lookup Us = some ⟨Q6,Ql,.func (W.fnOf "check_of" "check_of" (aq dv) (aj dv) (aa dv) .none R' Vh Pe WT Mf V4),Oj⟩) (c27:W.codeIn K Mf "check_of" = true) (k27:W.keepIn K (.ref Us) = true)
    (a28:W.nsIn K mainGlobals "entry_row" = some (some (.ref Ur))) (l28:K.lookup Ur = some ⟨Q5,Qk,.func (W.fnOf "entry_row" "entry_row" (aq cP) (aj cP) (aa cP) .none R9 Vg Pd WS Me V3),Oi⟩) (c28:W.codeIn K Me "entry_row" = true) (k28:W.keepIn K (.ref Ur) = true)
    (a29:W.nsIn K mainGlobals "end_row" = some (some (.ref Uq))) (l29:K.lookup Uq = some ⟨Q4,Qj,.func (W.fnOf "end_row" "end_row" (aq dQ) (aj dQ) (aa dQ) .none R8 Vf Pc WR Mc V2),Oh⟩) (c29:W.codeIn K Mc "end_row" = true) (k29:W.keepIn K (.ref Uq) = true)
    (a30:W.nsIn K mainGlobals "run_text" = some (some (.ref Up))) (l30:K.lookup Up = some ⟨Q3,Qi,.func (W.fnOf "run_text" "run_text" (aq cM) (aj cM) (aa cM) .none R7 Ve Pb WQ Mb V1),Og⟩) (c30:W.codeIn K Mb "run_text" = true) (k30:W.keepIn K (.ref Up) = true)
    (a31:W.nsIn K mainGlobals "read_head" = some (some (.ref Uo))) (l31:K.lookup Uo = some ⟨Q2,Qh,.func (W.fnOf "read_head" "read_head" (aq cO) (aj cO) (aa cO) .none R6 Vd Pa WO Ma V0),Of⟩) (c31:W.codeIn K Ma "read_head" = true) (k31:W.keepIn K (.ref Uo) = true)
    (a32:W.nsIn K mainGlobals "read_sieve_row" = some (some (.ref Um))) (l32:K.lookup Um = some ⟨Q1,Qg,.func (W.fnOf "read_sieve_row" "read_sieve_row" (aq bo) (aj bo) (aa bo) .none R5 Vc O' WN L9 VZ),Oe⟩) (c32:W.codeIn K L9 "read_sieve_row" = true) (k32:W.keepIn K (.ref Um) = true)
    (a33:W.nsIn K mainGlobals "read_entry" = some (some (.ref Ul))) (l33:K.lookup Ul = some ⟨Q0,Qf,.func (W.fnOf "read_entry" "read_entry" (aq cw) (aj cw) (aa cw) .none R0 Vb O9 WM L8 VY),Od⟩) (c33:W.codeIn K L8 "read_entry" = true) (k33:W.keepIn K (.ref Ul) = true)
    (a34:W.nsIn K mainGlobals "read_entries" = some (some (.ref Uk))) (l34:K.lookup Uk = some ⟨QZ,Qe,.func (W.fnOf "read_entries" "read_entries" (aq bJ) (aj bJ) (aa bJ) .none RZ Va O8 WL L7 VX),Oc⟩) (c34:W.codeIn K L7 "read_entries" = true) (k34:W.keepIn K (.ref Uk) = true)
    (a35:W.nsIn K mainGlobals "check_end" = some (some (.ref Uj))) (l35:K.lookup Uj = some ⟨QY,Qd,.func (W.fnOf "check_end" "check_end" (aq cQ) (aj cQ) (aa cQ) .none RY U9 O7 WK L6 VW),Ob⟩) (c35:W.codeIn K L6 "check_end" = true) (k35:W.keepIn K (.ref Uj) = true)
    (a36:W.nsIn K mainGlobals "read_run" = some (some (.ref Ui))) (l36:K.lookup Ui = some ⟨QX,Qc,.func (W.fnOf "read_run" "read_run" (aq dn) (aj dn) (aa dn) .none RX U8 O6 WJ L5 VV),Oa⟩) (c36:W.codeIn K L5 "read_run" = true) (k36:W.keepIn K (.ref Ui) = true)
    (a37:W.nsIn K mainGlobals "_law_cell_at" = some (some (.ref Uh))) (l37:K.lookup Uh = some ⟨QW,Qb,.func (W.fnOf "_law_cell_at" "_law_cell_at" (aq bN) (aj bN) (aa bN) .none RW U7 O5 WI L4 VU),N9⟩) (c37:W.codeIn K L4 "_law_cell_at" = true) (k37:W.keepIn K (.ref Uh) = true)
    (a38:W.nsIn K mainGlobals "_law_stream" = some (some (.ref Ug))) (l38:K.lookup Ug = some ⟨QV,Qa,.func (W.fnOf "_law_stream" "_law_stream" (aq ck) (aj ck) (aa ck) .none RV U6 O4 WH L3 VT),N8⟩) (c38:W.codeIn K L3 "_law_stream" = true) (k38:W.keepIn K (.ref Ug) = true)
    (a39:W.nsIn K mainGlobals "_law_text_by" = some (some (.ref Ue))) (l39:K.lookup Ue = some ⟨QU,P9,.func (W.fnOf "_law_text_by" "_law_text_by" (aq br) (aj br) (aa br) .none RU U5 O3 WG LZ VS),N7⟩) (c39:W.codeIn K LZ "_law_text_by" = true) (k39:W.keepIn K (.ref Ue) = true)
    (a40:W.nsIn K mainGlobals "_law_key_by" = some (some (.ref Uc))) (l40:K.lookup Uc = some ⟨QT,P8,.func (W.fnOf "_law_key_by" "_law_key_by" (aq cm) (aj cm) (aa cm) .none RT U4 O2 WE LY VR),N6⟩) (c40:W.codeIn K LY "_law_key_by" = true) (k40:W.keepIn K (.ref Uc) = true)
    (a41:W.nsIn K mainGlobals "_law_near" = some (some (.ref Ub))) (l41:K.lookup Ub = some ⟨QS,P7,.func (W.fnOf "_law_near" "_law_near" (aq cR) (aj cR) (aa cR) .none RS U3 O1 WD LX VQ),N5⟩) (c41:W.codeIn K LX "_law_near" = true) (k41:W.keepIn K (.ref Ub) = true)
    (a42:W.nsIn K mainGlobals "_law_value_by" = some (some (.ref Ua))) (l42:K.lookup Ua = some ⟨QR,P6,.func (W.fnOf "_law_value_by" "_law_value_by" (aq bw) (aj bw) (aa bw) .none RR U2 O0 WC LW VP),N4⟩) (c42:W.codeIn K LW "_law_value_by" = true) (k42:W.keepIn K (.ref Ua) = true)
    (a43:W.nsIn K mainGlobals "_law_stamp_by" = some (some (.ref T'))) (l43:K.lookup T' = some ⟨QQ,P5,.func (W.fnOf "_law_stamp_by" "_law_stamp_by" (aq bx) (aj bx) (aa bx) .none RQ U1 OZ WB LV VO),N3⟩) (c43:W.codeIn K LV "_law_stamp_by" = true) (k43:W.keepIn K (.ref T') = true)
    (a44:W.nsIn K mainGlobals "_law_entries_by" = some (some (.ref T9))) (l44:K.lookup T9 = some ⟨QP,P4,.func (W.fnOf "_law_entries_by" "_law_entries_by" (aq aP) (aj aP) (aa aP) .none RP U0 OY WA LU VN),N2⟩) (c44:W.codeIn K LU "_law_entries_by" = true) (k44:W.keepIn K (.ref T9) = true)
    (a45:W.nsIn K mainGlobals "_law_many_by" = some (some (.ref T8))) (l45:K.lookup T8 = some ⟨QO,P2,.func (W.fnOf "_law_many_by" "_law_many_by" (aq bM) (aj bM) (aa bM) .none RO UZ OX Wz LS VM),N1⟩) (c45:W.codeIn K LS "_law_many_by" = true) (k45:W.keepIn K (.ref T8) = true)
    {Cj:Addr}
    (YK:W.nsIn K mainGlobals "_law_in_order" = some (some (.ref T7))) (l46:K.lookup T7 = some ⟨QN,P1,.func (W.fnOf "_law_in_order" "_law_in_order" (aq aQ) (aj aQ) (aa aQ) .none RN UY OW Wy (.ref Cj) VL),N0⟩) (c46:W.codeIn K (.ref Cj) "_law_in_order" = true) (k46:W.keepIn K (.ref T7) = true)
    (LF:W.codeHdIn K Cj mE = true)
    (a47:W.nsIn K mainGlobals "_law_sieve" = some (some (.ref T6))) (l47:K.lookup T6 = some ⟨QM,P0,.func (W.fnOf "_law_sieve" "_law_sieve" (aq bX) (aj bX) (aa bX) .none RM UX OV Wx LR VJ),NZ⟩) (c47:W.codeIn K LR "_law_sieve" = true) (k47:W.keepIn K (.ref T6) = true)
    (a48:W.nsIn K mainGlobals "_law_entry_same" = some (some (.ref T5))) (l48:K.lookup T5 = some ⟨QL,PZ,.func (W.fnOf "_law_entry_same" "_law_entry_same" (aq aY) (aj aY) (aa aY) .none RL UW OU Ww LQ VI),NY⟩) (c48:W.codeIn K LQ "_law_entry_same" = true) (k48:W.keepIn K (.ref T5) = true)
    (a49:W.nsIn K mainGlobals "_law_all_same" = some (some (.ref T4))) (l49:K.lookup T4 = some ⟨QK,PY,.func (W.fnOf "_law_all_same" "_law_all_same" (aq bg) (aj bg) (aa bg) .none RJ UU OT Wv LP VH),NX⟩) (c49:W.codeIn K LP "_law_all_same" = true) (k49:W.keepIn K (.ref T4) = true)
    (a50:W.nsIn K mainGlobals "_law_run_same" = some (some (.ref T3))) (l50:K.lookup T3 = some ⟨QJ,PX,.func (W.fnOf "_law_run_same" "_law_run_same" (aq bf) (aj bf) (aa bf) .none RI UT OS Wu LO VG),NW⟩) (c50:W.codeIn K LO "_law_run_same" = true) (k50:W.keepIn K (.ref T3) = true)
    (a51:W.nsIn K mainGlobals "_law_rows_by" = some (some (.ref T2))) (l51:K.lookup T2 = some ⟨QI,PV,.func (W.fnOf "_law_rows_by" "_law_rows_by" (aq bL) (aj bL) (aa bL) .none RH US OR Wt LN VF),NV⟩) (c51:W.codeIn K LN "_law_rows_by" = true) (k51:W.keepIn K (.ref T2) = true)
    (a52:W.nsIn K mainGlobals "_law_check" = some (some (.ref T1))) (l52:K.lookup T1 = some ⟨QH,PU,.func (W.fnOf "_law_check" "_law_check" (aq cx) (aj cx) (aa cx) .none RG UR OQ Ws LM VE),NU⟩) (c52:W.codeIn K LM "_law_check" = true) (k52:W.keepIn K (.ref T1) = true)
    (a53:W.nsIn K mainGlobals "_law_row" = some (some (.ref TZ))) (l53:K.lookup TZ = some ⟨QG,PR,.func (W.fnOf "_law_row" "_law_row" (aq dw) (aj dw) (aa dw) .none RF UQ OP Wr LL VD),NT⟩) (c53:W.codeIn K LL "_law_row" = true) (k53:W.keepIn K (.ref TZ) = true)
    (a54:W.nsIn K mainGlobals "_law_sieve_row" = some (some (.ref TY))) (l54:K.lookup TY = some ⟨QF,PQ,.func (W.fnOf "_law_sieve_row" "_law_sieve_row" (aq bp) (aj bp) (aa bp) .none RE UP OO Wq LK VC),NS⟩) (c54:W.codeIn K LK "_law_sieve_row" = true) (k54:W.keepIn K (.ref TY) = true)
    (a55:W.nsIn K mainGlobals "_law_lines" = some (some (.ref TX))) (l55:K.lookup TX = some ⟨QE,PN,.func (W.fnOf "_law_lines" "_law_lines" (aq bB) (aj bB) (aa bB) .none RD UO ON Wo LJ VB),NR⟩) (c55:W.codeIn K LJ "_law_lines" = true) (k55:W.keepIn K (.ref TX) = true)
    (YJ:W.nsIn K mainGlobals "law" = some (some (.ref TV))) (l56:K.lookup TV = some ⟨QD,PM,.func (W.fnOf "law" "law" (aq lW) (aj lW) (aa lW) .none RC UN OM Wn LH VA),NQ⟩) (c56:W.codeIn K LH "law" = true) (k56:W.keepIn K (.ref TV) = true)
    (kT:K.lookup mE = none)
    (zR:K.lookup dB = none)
    {o8:Addr} {tF tE tD:Tok} {uw:Option Addr} {wK:Nat} {tX:Array (Option Value)} (g_FACTORS:W.nsIn K mainGlobals "FACTORS" = some (some (.ref o8))) (y7:K.lookup o8 = some ⟨.type "tuple",uw,.seq #[Value.int 31 tF,Value.int 37 tE,Value.int 41 tD] wK,tX⟩)
    (g0:W.nsIn K mainGlobals "FIGURES" = some (some (Value.str (PySem.Str.ofString "0123456789") MN)))
    (g1:W.nsIn K mainGlobals "LOWEST_SIGN" = some (some (Value.str (PySem.Str.ofString " ") FV)))
    (g2:W.nsIn K mainGlobals "HIGHEST_SIGN" = some (some (Value.str (PySem.Str.ofString "~") ZU)))
    (g3:W.nsIn K mainGlobals "LONGEST_KEY" = some (some (Value.int 20 MM)))
    (g4:W.nsIn K mainGlobals "LONGEST_VALUE" = some (some (Value.int 40 ZT)))
    (g5:W.nsIn K mainGlobals "GREATEST_STAMP" = some (some (Value.int 999999999 ZS)))
    (g6:W.nsIn K mainGlobals "KEY_FIGURES" = some (some (Value.int 2 Jh)))
    (g7:W.nsIn K mainGlobals "FIRST_NUMBER_sieves" = some (some (Value.int 7 Jg)))
    (g8:W.nsIn K mainGlobals "MODULUS_sieves" = some (some (Value.int 1000003 FU)))
    (g9:W.nsIn K mainGlobals "SIGNS" = some (some (Value.str (PySem.Str.ofString "abcdefghijklmnop") EU)))
    (g10:W.nsIn K mainGlobals "GREATEST_SIZE" = some (some (Value.int 999992 NJ)))
    (g11:W.nsIn K mainGlobals "FIRST_NUMBER_runfiles" = some (some (Value.int 7 NI)))
    (g12:W.nsIn K mainGlobals "FACTOR" = some (some (Value.int 31 NH)))
    (g13:W.nsIn K mainGlobals "MODULUS_runfiles" = some (some (Value.int 9973 NG)))
    (g14:W.nsIn K mainGlobals "MOST_ENTRIES" = some (some (Value.int 9999 NF)))
    (g15:W.nsIn K mainGlobals "HEAD_LINE" = some (some (Value.int 1 ND)))
    (g16:W.nsIn K mainGlobals "SIEVE_LINE" = some (some (Value.int 2 NC)))
    (g17:W.nsIn K mainGlobals "FIRST_ENTRY_LINE" = some (some (Value.int 3 NB)))
    (z0:W.nsIn K mainGlobals "_law_entry" = some none)
    (z1:W.nsIn K mainGlobals "all" = some none)
    (z2:W.nsIn K mainGlobals "bool" = some none)
    (z3:W.nsIn K mainGlobals "int" = some none)
    (z4:W.nsIn K mainGlobals "isinstance" = some none)
    (z5:W.nsIn K mainGlobals "key" = some none)
    (z6:W.nsIn K mainGlobals "len" = some none)
    (z7:W.nsIn K mainGlobals "max" = some none)
    (z8:W.nsIn K mainGlobals "ord" = some none)
    (z9:W.nsIn K mainGlobals "place_of" = some none)
    (ZL:W.nsIn K mainGlobals "range" = some none)
    (ZK:W.nsIn K mainGlobals "set" = some none)
    (ZJ:W.nsIn K mainGlobals "size" = some none)
    (ZI:W.nsIn K mainGlobals "sorted" = some none)
    (ZH:W.nsIn K mainGlobals "str" = some none)
    (ZG:W.nsIn K mainGlobals "tuple" = some none)
    : (∀ p ∈ tabs,K.lookup p = none/\∃ c,W.codeHdIn K c p = true)/\∃ fd:FuncData,(∀ (s:Shared) (v:Value),BindsTo s fd ⟨[v],[]⟩ [("_law_script",v)])/\∀ base:Heap,K.In base->base.Ns mainGlobals mg->(∀ p ∈ tabs,base.BuiltinsAt mg p)->FnOk l.prog w K mg base cB 15 fa fd ["_law_script"] (xx K):=by
 have e:=El.symm.trans (W.mg_of X G YJ)
 cases e
 have F1:=aA (st:=bG) l1 c1 k1;have b1:=F1.binds (ps:=["text"]) fun _ _ _ _ _ _ us hl=>match us,hl with | [_],_=>rfl
 have F2:=aA (st:=eW) l2 c2 k2;have b2:=F2.binds (ps:=["number","width"]) fun _ _ _ _ _ _ us hl=>match us,hl with | [_,_],_=>rfl
 have F3:=aA (st:=cg) l3 c3 k3;have b3:=F3.binds (ps:=["text","least","most"]) fun _ _ _ _ _ _ us hl=>match us,hl with | [_,_,_],_=>rfl
 have F4:=aA (st:=bI) l4 c4 k4;have b4:=F4.binds (ps:=["text","least","most"]) fun _ _ _ _ _ _ us hl=>match us,hl with | [_,_,_],_=>rfl
 have F5:=aA (st:=ba) l5 c5 k5;have b5:=F5.binds (ps:=["thing","fewest","most"]) fun _ _ _ _ _ _ us hl=>match us,hl with | [_,_,_],_=>rfl
 have F6:=aA (st:=eX) l6 c6 k6;have b6:=F6.binds (ps:=["thing"]) fun _ _ _ _ _ _ us hl=>match us,hl with | [_],_=>rfl
 have F7:=aA (st:=dq) l7 c7 k7;have b7:=F7.binds (ps:=["thing"]) fun _ _ _ _ _ _ us hl=>match us,hl with | [_],_=>rfl
 have F8:=aA (st:=aX) l8 c8 k8;have b8:=F8.binds (ps:=["thing"]) fun _ _ _ _ _ _ us hl=>match us,hl with | [_],_=>rfl
 have F9:=aA (st:=dt) l9 c9 k9;have b9:=F9.binds (ps:=["thing"]) fun _ _ _ _ _ _ us hl=>match us,hl with | [_],_=>rfl
 have ZF:=aA (st:=du) l10 c10 k10;have b10:=ZF.binds (ps:=["thing"]) fun _ _ _ _ _ _ us hl=>match us,hl with | [_],_=>rfl
 have ZE:=aA (st:=dP) l11 c11 k11;have b11:=ZE.binds (ps:=["entry"]) fun _ _ _ _ _ _ us hl=>match us,hl with | [_],_=>rfl
 have ZD:=aA (st:=cj) l12 c12 k12;have b12:=ZD.binds (ps:=["one","other"]) fun _ _ _ _ _ _ us hl=>match us,hl with | [_,_],_=>rfl
 have ZC:=aA (st:=bq) l13 c13 k13;have b13:=ZC.binds (ps:=["rows"]) fun _ _ _ _ _ _ us hl=>match us,hl with | [_],_=>rfl
 have ZA:=aA (st:=dO) l14 c14 k14;have b14:=ZA.binds (ps:=["text"]) fun _ _ _ _ _ _ us hl=>match us,hl with | [_],_=>rfl
 have Zz:=aA (st:=eV) l15 c15 k15;have b15:=Zz.binds (ps:=["rows","line"]) fun _ _ _ _ _ _ us hl=>match us,hl with | [_,_],_=>rfl
 have Zy:=aA (st:=bK) l16 c16 k16;have b16:=Zy.binds (ps:=["key","rest"]) fun _ _ _ _ _ _ us hl=>match us,hl with | [_,_],_=>rfl
 have Zx:=aA (st:=aO) l17 c17 k17;have b17:=Zx.binds (ps:=["text"]) fun _ _ _ _ _ _ us hl=>match us,hl with | [_],_=>rfl
 have Xd:=aA (st:=eN) l18 c18 k18;have YD:=Xd.binds (ps:=["factor"]) fun _ _ _ _ _ _ us hl=>match us,hl with | [_],_=>rfl
 have Zw:=aA (st:=cq) l19 c19 k19;have b19:=Zw.binds (ps:=["key","size"]) fun _ _ _ _ _ _ us hl=>match us,hl with | [_,_],_=>rfl
 have Zv:=aA (st:=dm) l20 c20 k20;have b20:=Zv.binds (ps:=["keys"]) fun _ _ _ _ _ _ us hl=>match us,hl with | [_],_=>rfl
 have Zu:=aA (st:=dk) l21 c21 k21;have b21:=Zu.binds (ps:=["bits","many"]) fun _ _ _ _ _ _ us hl=>match us,hl with | [_,_],_=>rfl
 have Zt:=aA (st:=dR) l22 c22 k22;have b22:=Zt.binds (ps:=["signs"]) fun _ _ _ _ _ _ us hl=>match us,hl with | [_],_=>rfl
 have Zs:=aA (st:=cv) l23 c23 k23;have b23:=Zs.binds (ps:=["sieve"]) fun _ _ _ _ _ _ us hl=>match us,hl with | [_],_=>rfl
 have Zr:=aA (st:=cN) l24 c24 k24;have b24:=Zr.binds (ps:=["text"]) fun _ _ _ _ _ _ us hl=>match us,hl with | [_],_=>rfl
 have Zq:=aA (st:=bW) l25 c25 k25;have b25:=Zq.binds (ps:=["text"]) fun _ _ _ _ _ _ us hl=>match us,hl with | [_],_=>rfl
 have Zp:=aA (st:=aM) l26 c26 k26;have b26:=Zp.binds (ps:=["entries"]) fun _ _ _ _ _ _ us hl=>match us,hl with | [_],_=>rfl
 have Zo:=aA (st:=dv) l27 c27 k27;have b27:=Zo.binds (ps:=["text"]) fun _ _ _ _ _ _ us hl=>match us,hl with | [_],_=>rfl
 have Zn:=aA (st:=cP) l28 c28 k28;have b28:=Zn.binds (ps:=["entry"]) fun _ _ _ _ _ _ us hl=>match us,hl with | [_],_=>rfl
 have Zm:=aA (st:=dQ) l29 c29 k29;have b29:=Zm.binds (ps:=["ahead"]) fun _ _ _ _ _ _ us hl=>match us,hl with | [_],_=>rfl
 have Zl:=aA (st:=cM) l30 c30 k30;have b30:=Zl.binds (ps:=["run"]) fun _ _ _ _ _ _ us hl=>match us,hl with | [_],_=>rfl
 have Zk:=aA (st:=cO) l31 c31 k31;have b31:=Zk.binds (ps:=["row"]) fun _ _ _ _ _ _ us hl=>match us,hl with | [_],_=>rfl
 have Zj:=aA (st:=bo) l32 c32 k32;have b32:=Zj.binds (ps:=["row"]) fun _ _ _ _ _ _ us hl=>match us,hl with | [_],_=>rfl
 have Zi:=aA (st:=cw) l33 c33 k33;have b33:=Zi.binds (ps:=["row"]) fun _ _ _ _ _ _ us hl=>match us,hl with | [_],_=>rfl
 have Zh:=aA (st:=bJ) l34 c34 k34;have b34:=Zh.binds (ps:=["rows","many"]) fun _ _ _ _ _ _ us hl=>match us,hl with | [_,_],_=>rfl
 have Zg:=aA (st:=cQ) l35 c35 k35;have b35:=Zg.binds (ps:=["text","rows","line"]) fun _ _ _ _ _ _ us hl=>match us,hl with | [_,_,_],_=>rfl
 have Zf:=aA (st:=dn) l36 c36 k36;have b36:=Zf.binds (ps:=["text"]) fun _ _ _ _ _ _ us hl=>match us,hl with | [_],_=>rfl
 have Ze:=aA (st:=bN) l37 c37 k37;have b37:=Ze.binds (ps:=["_law_script","_law_k"]) fun _ _ _ _ _ _ us hl=>match us,hl with | [_,_],_=>rfl
 have Zd:=aA (st:=ck) l38 c38 k38;have b38:=Zd.binds (ps:=["_law_cell","_law_many"]) fun _ _ _ _ _ _ us hl=>match us,hl with | [_,_],_=>rfl
 have Zc:=aA (st:=br) l39 c39 k39;have b39:=Zc.binds (ps:=["_law_x","_law_size","_law_some"]) fun _ _ _ _ _ _ us hl=>match us,hl with | [_,_,_],_=>rfl
 have Zb:=aA (st:=cm) l40 c40 k40;have b40:=Zb.binds (ps:=["_law_x"]) fun _ _ _ _ _ _ us hl=>match us,hl with | [_],_=>rfl
 have Za:=aA (st:=cR) l41 c41 k41;have b41:=Za.binds (ps:=["_law_named","_law_x"]) fun _ _ _ _ _ _ us hl=>match us,hl with | [_,_],_=>rfl
 have Y':=aA (st:=bw) l42 c42 k42;have b42:=Y'.binds (ps:=["_law_x"]) fun _ _ _ _ _ _ us hl=>match us,hl with | [_],_=>rfl
 have Y9:=aA (st:=bx) l43 c43 k43;have b43:=Y9.binds (ps:=["_law_x"]) fun _ _ _ _ _ _ us hl=>match us,hl with | [_],_=>rfl
 have Y8:=aA (st:=aP) l44 c44 k44;have b44:=Y8.binds (ps:=["_law_cell","_law_many"]) fun _ _ _ _ _ _ us hl=>match us,hl with | [_,_],_=>rfl
 have Y7:=aA (st:=bM) l45 c45 k45;have b45:=Y7.binds (ps:=["_law_cell"]) fun _ _ _ _ _ _ us hl=>match us,hl with | [_],_=>rfl
 have Xc:=aA (st:=aQ) l46 c46 k46;have YC:=Xc.binds (ps:=["_law_entries"]) fun _ _ _ _ _ _ us hl=>match us,hl with | [_],_=>rfl
 have Y6:=aA (st:=bX) l47 c47 k47;have b47:=Y6.binds (ps:=["_law_entries"]) fun _ _ _ _ _ _ us hl=>match us,hl with | [_],_=>rfl
 have Y5:=aA (st:=aY) l48 c48 k48;have b48:=Y5.binds (ps:=["_law_told","_law_due"]) fun _ _ _ _ _ _ us hl=>match us,hl with | [_,_],_=>rfl
 have Y4:=aA (st:=bg) l49 c49 k49;have b49:=Y4.binds (ps:=["_law_told","_law_due"]) fun _ _ _ _ _ _ us hl=>match us,hl with | [_,_],_=>rfl
 have Y3:=aA (st:=bf) l50 c50 k50;have b50:=Y3.binds (ps:=["_law_told","_law_entries"]) fun _ _ _ _ _ _ us hl=>match us,hl with | [_,_],_=>rfl
 have Y2:=aA (st:=bL) l51 c51 k51;have b51:=Y2.binds (ps:=["_law_script","_law_at"]) fun _ _ _ _ _ _ us hl=>match us,hl with | [_,_],_=>rfl
 have Y1:=aA (st:=cx) l52 c52 k52;have b52:=Y1.binds (ps:=["_law_text"]) fun _ _ _ _ _ _ us hl=>match us,hl with | [_],_=>rfl
 have Y0:=aA (st:=dw) l53 c53 k53;have b53:=Y0.binds (ps:=["_law_entry"]) fun _ _ _ _ _ _ us hl=>match us,hl with | [_],_=>rfl
 have YZ:=aA (st:=bp) l54 c54 k54;have b54:=YZ.binds (ps:=["_law_entries"]) fun _ _ _ _ _ _ us hl=>match us,hl with | [_],_=>rfl
 have YY:=aA (st:=bB) l55 c55 k55;have b55:=YY.binds (ps:=["_law_entries"]) fun _ _ _ _ _ _ us hl=>match us,hl with | [_],_=>rfl
 have YX:=aA (st:=lW) l56 c56 k56;have b56:=YX.binds (ps:=["_law_script"]) fun _ _ _ _ _ _ us hl=>match us,hl with | [_],_=>rfl
 have T:Txt K mg:={ g_FACTORS:=⟨_,⟨_,W.mg_of X G g_FACTORS,rfl⟩,fun H=>.inr ⟨_,_,_,y7,rfl,rfl,by simp [sizeLine_eq],.cons ⟨_,rfl⟩ (.cons ⟨_,rfl⟩ (.cons ⟨_,rfl⟩ (.nil)))⟩⟩,f_are_figures:=⟨_,_,F1,W.mg_of X G a1,b1⟩,f_padded:=⟨_,_,F2,W.mg_of X G a2,b2⟩,f_read_padded:=⟨_,_,F3,W.mg_of X G a3,b3⟩,f_read_figures:=⟨_,_,F4,W.mg_of X G a4,b4⟩,f_is_plain_text:=⟨_,_,F5,W.mg_of X G a5,b5⟩,f_is_key:=⟨_,_,F6,W.mg_of X G a6,b6⟩,f_is_value:=⟨_,_,F7,W.mg_of X G a7,b7⟩,f_is_whole_number:=⟨_,_,F8,W.mg_of X G a8,b8⟩,f_is_stamp:=⟨_,_,F9,W.mg_of X G a9,b9⟩,f_is_entry:=⟨_,_,ZF,W.mg_of X G a10,b10⟩,f_rank_of:=⟨_,_,ZE,W.mg_of X G a11,b11⟩,f_comes_ahead:=⟨_,_,ZD,W.mg_of X G a12,b12⟩,f_text_of_rows:=⟨_,_,ZC,W.mg_of X G a13,b13⟩,f_rows_of:=⟨_,_,ZA,W.mg_of X G a14,b14⟩,f_row_at:=⟨_,_,Zz,W.mg_of X G a15,b15⟩,f_key_and_rest:=⟨_,_,Zy,W.mg_of X G a16,b16⟩,f_read_key_and_rest:=⟨_,_,Zx,W.mg_of X G a17,b17⟩,f_probe:=⟨_,_,Xd,W.mg_of X G YL,YD⟩,c_probe:=⟨_,_,_,⟨Xd,W.mg_of X G YL,YD⟩,rfl,LG⟩,f_places_of:=⟨_,_,Zw,W.mg_of X G a19,b19⟩,f_sieve_of:=⟨_,_,Zv,W.mg_of X G a20,b20⟩,f_signs_of:=⟨_,_,Zu,W.mg_of X G a21,b21⟩,f_bits_of:=⟨_,_,Zt,W.mg_of X G a22,b22⟩,f_sieve_text:=⟨_,_,Zs,W.mg_of X G a23,b23⟩,f_read_size:=⟨_,_,Zr,W.mg_of X G a24,b24⟩,f_read_sieve:=⟨_,_,Zq,W.mg_of X G a25,b25⟩,f_sieve_of_entries:=⟨_,_,Zp,W.mg_of X G a26,b26⟩,f_check_of:=⟨_,_,Zo,W.mg_of X G a27,b27⟩,f_entry_row:=⟨_,_,Zn,W.mg_of X G a28,b28⟩,f_end_row:=⟨_,_,Zm,W.mg_of X G a29,b29⟩,f_run_text:=⟨_,_,Zl,W.mg_of X G a30,b30⟩,f_read_head:=⟨_,_,Zk,W.mg_of X G a31,b31⟩,f_read_sieve_row:=⟨_,_,Zj,W.mg_of X G a32,b32⟩,f_read_entry:=⟨_,_,Zi,W.mg_of X G a33,b33⟩,f_read_entries:=⟨_,_,Zh,W.mg_of X G a34,b34⟩,f_check_end:=⟨_,_,Zg,W.mg_of X G a35,b35⟩,f_read_run:=⟨_,_,Zf,W.mg_of X G a36,b36⟩,f__law_cell_at:=⟨_,_,Ze,W.mg_of X G a37,b37⟩,f__law_stream:=⟨_,_,Zd,W.mg_of X G a38,b38⟩,f__law_text_by:=⟨_,_,Zc,W.mg_of X G a39,b39⟩,f__law_key_by:=⟨_,_,Zb,W.mg_of X G a40,b40⟩,f__law_near:=⟨_,_,Za,W.mg_of X G a41,b41⟩,f__law_value_by:=⟨_,_,Y',W.mg_of X G a42,b42⟩,f__law_stamp_by:=⟨_,_,Y9,W.mg_of X G a43,b43⟩,f__law_entries_by:=⟨_,_,Y8,W.mg_of X G a44,b44⟩,f__law_many_by:=⟨_,_,Y7,W.mg_of X G a45,b45⟩,f__law_in_order:=⟨_,_,Xc,W.mg_of X G YK,YC⟩,c__law_in_order:=⟨_,_,_,⟨Xc,W.mg_of X G YK,YC⟩,rfl,LF⟩,f__law_sieve:=⟨_,_,Y6,W.mg_of X G a47,b47⟩,f__law_entry_same:=⟨_,_,Y5,W.mg_of X G a48,b48⟩,f__law_all_same:=⟨_,_,Y4,W.mg_of X G a49,b49⟩,f__law_run_same:=⟨_,_,Y3,W.mg_of X G a50,b50⟩,f__law_rows_by:=⟨_,_,Y2,W.mg_of X G a51,b51⟩,f__law_check:=⟨_,_,Y1,W.mg_of X G a52,b52⟩,f__law_row:=⟨_,_,Y0,W.mg_of X G a53,b53⟩,f__law_sieve_row:=⟨_,_,YZ,W.mg_of X G a54,b54⟩,f__law_lines:=⟨_,_,YY,W.mg_of X G a55,b55⟩,g_FIGURES:=⟨_,W.mg_of X G g0,⟨_,rfl⟩⟩,g_LOWEST_SIGN:=⟨_,W.mg_of X G g1,⟨_,rfl⟩⟩,g_HIGHEST_SIGN:=⟨_,W.mg_of X G g2,⟨_,rfl⟩⟩,g_LONGEST_KEY:=⟨_,W.mg_of X G g3,⟨_,rfl⟩⟩,g_LONGEST_VALUE:=⟨_,W.mg_of X G g4,⟨_,rfl⟩⟩,g_GREATEST_STAMP:=⟨_,W.mg_of X G g5,⟨_,rfl⟩⟩,g_KEY_FIGURES:=⟨_,W.mg_of X G g6,⟨_,rfl⟩⟩,g_FIRST_NUMBER_sieves:=⟨_,W.mg_of X G g7,⟨_,rfl⟩⟩,g_MODULUS_sieves:=⟨_,W.mg_of X G g8,⟨_,rfl⟩⟩,g_SIGNS:=⟨_,W.mg_of X G g9,⟨_,rfl⟩⟩,g_GREATEST_SIZE:=⟨_,W.mg_of X G g10,⟨_,rfl⟩⟩,g_FIRST_NUMBER_runfiles:=⟨_,W.mg_of X G g11,⟨_,rfl⟩⟩,g_FACTOR:=⟨_,W.mg_of X G g12,⟨_,rfl⟩⟩,g_MODULUS_runfiles:=⟨_,W.mg_of X G g13,⟨_,rfl⟩⟩,g_MOST_ENTRIES:=⟨_,W.mg_of X G g14,⟨_,rfl⟩⟩,g_HEAD_LINE:=⟨_,W.mg_of X G g15,⟨_,rfl⟩⟩,g_SIEVE_LINE:=⟨_,W.mg_of X G g16,⟨_,rfl⟩⟩,g_FIRST_ENTRY_LINE:=⟨_,W.mg_of X G g17,⟨_,rfl⟩⟩,b__law_entry:=W.mg_none_of X G z0,b_all:=W.mg_none_of X G z1,b_bool:=W.mg_none_of X G z2,b_int:=W.mg_none_of X G z3,b_isinstance:=W.mg_none_of X G z4,b_key:=W.mg_none_of X G z5,b_len:=W.mg_none_of X G z6,b_max:=W.mg_none_of X G z7,b_ord:=W.mg_none_of X G z8,b_place_of:=W.mg_none_of X G z9,b_range:=W.mg_none_of X G ZL,b_set:=W.mg_none_of X G ZK,b_size:=W.mg_none_of X G ZJ,b_sorted:=W.mg_none_of X G ZI,b_str:=W.mg_none_of X G ZH,b_tuple:=W.mg_none_of X G ZG }
 exact ⟨fun p hp=>by
  simp only [List.mem_cons,List.not_mem_nil,or_false] at hp
  rcases hp with rfl | rfl
  ·exact ⟨kT,_,LF⟩
  ·exact ⟨zR,_,LG⟩,_,fun s v=>.of_eq rfl,fun base kIn _ hB=>HN T hB kIn ⟨YX,W.mg_of X G YJ,b56⟩⟩
theorem walk {l : W.OpenLaw} {q : Program} {loose : List Str} {XP : (Str -> Option Value) -> Heap -> Prop} {YP : World -> Heap -> Prop} {d : DefRec} {K : Params -> W.Frag} (hn : l.most = some 63) (Lh : d.params.defaults = [])
    (hY:∀ (w:World) (h:Heap),YP w h->(K w.params).In h/\∀ p ∈ tabs,h.get? p = some (W.tabObj #[]))
    (F:∀ (w:World) (mg:Str->Option Value) (fa:Addr) (h:Heap),(K w.params).In h->h.Ns mainGlobals mg->mg d.name = some (.ref fa) ->
     (∀ p ∈ tabs,(K w.params).lookup p = none/\∃ c,W.codeHdIn (K w.params) c p = true)/\∃ fd:FuncData,(∀ (s:Shared) (u:Value),BindsTo s fd ⟨[u],[]⟩ [("_law_script",u)])/\∀ base:Heap,(K w.params).In base->base.Ns mainGlobals mg->(∀ p ∈ tabs,base.BuiltinsAt mg p)->FnOk l.prog w (K w.params) mg base cB 15 fa fd ["_law_script"] (xx (K w.params))) :
    W.WalkO q loose XP YP l.row.toRowW d [] (fun f vs=>PySem.call f vs) :=
 L2.walk_ofT (n:=63) (ts:=tabs) (k:=15) (x:="_law_script") (CX:=fun _=>cB) (sp:=fun w=>xx (K w.params)) hn (by decide) Lh ⟨rfl,by decide,by decide⟩ hY F (fun _ _ a ns hl hT hS=>⟨a,ns,rfl,hS,hl,TabOk.start (hT mE (by simp)),TabOk.start (hT dB (by simp)),fun _=>rfl⟩) fun _ _ _ _ _ z=>z
end T24
namespace PySem.W.Fast
def tw6480625154476872853:=()
def tw5387303188245653767:=()
def tw12950563705248363342:=()
def tw9757142185333649186:=()
def tw3022641389023056180:=()
def tw10350331646262842840:=()
def tw7262879366370400446:=()
def tw894046840316960360:=()
def tw17978868902735854082:=()
def tw18199491113742237042:=()
def tw6689972963651762077:=()
def tw4415428867751314423:=()
def tw13014066004520441208:=()
def tw18226168827179844402:=()
def tw10966435981525766464:=()
def tw10453026411692386351:=()
def tw17797292753599490488:=()
def tw17120456875733945643:=()
def tw14238419604895369827:=()
def tw15955679321334452047:=()
def tw4844783479028167029:=()
def tw2313313566431837962:=()
def tw3997254167836140980:=()
def tw15458771681753786315:=()
def tw17037545249416061676:=()
def tw10415652645189268391:=()
def tw10739009915080231227:=()
def tw8845825030040500147:=()
def tw10072642241331333682:=()
def tw12835595772386132076:=()
def tw15905472329966483543:=()
def tw12638662269993804717:=()
def tw4636594873115894790:=()
def tw9915277114666967020:=()
def tw955590926013917121:=()
def tw8654164114648864412:=()
def tw9198456283990074156:=()
def tw4197119648086519304:=()
def tw4880856618960041561:=()
def tw7340853819126422901:=()
def tw8064862061398514815:=()
def tw10266300564764245098:=()
def tw5048603658305671525:=()
def tw15780022470952219982:=()
def tw12262420457196858118:=()
def tw2194966346678541354:=()
def tw9830192172872028972:=()
def tw1898262094681003555:=()
def tw5281026742659604617:=()
def tw1141686019968581645:=()
def tw13753001442900378680:=()
def tw5512444779617709902:=()
def tw6702740079021805376:=()
def tw10384417893966822215:=()
def tw17345788711002535868:=()
def tw17644664570526669245:=()
def tw1943274717032598402:=()
def tw10604145508656811042:=()
def tw2929502701332338823:=()
def tw11590026078083583254:=()
def tw5173538328810298498:=()
def tw11168170584895991488:=()
def tw7855041834277263348:=()
def tw15316415293947559213:=()
def tw8520547518961505599:=()
def tw6678942059991652455:=()
def tw5569530080834760302:=()
def tw2311350739208088876:=()
def tw3209672493001700722:=()
def tw914947976614256443:=()
def tw2636300463476094904:=()
def tw8640530801391289750:=()
def tw13004311815827370482:=()
def tw17320502928456718853:=()
def tw4160036184710287622:=()
def tw3913251770670278190:=()
def tw16411900908221513186:=()
def tw176490004056603930:=()
def tw76339331789197283:=()
def tw107696769848775946:=()
def tw12564929498452219115:=()
def tw441385196308524985:=()
def tw6387289346476502192:=()
def tw11510878273296937753:=()
def tw14609175522222321853:=()
def tw13595939795201065527:=()
def tw443890939389650796:=()
def tw3710310137145721383:=()
def tw17984138947969562410:=()
def tw1877044761289494188:=()
def tw8071260838621517446:=()
def tw14074141936662895693:=()
def tw12244484658018201383:=()
def tw10761266755301403952:=()
def tw7151314343040049707:=()
def tw6651288574378965316:=()
def tw14852380422016371835:=()
def tw18363136325716047878:=()
def tw3359119063899647913:=()
def tw978824927401400519:=()
def tw7642308674834536405:=()
def tw13144985309377796116:=()
def tw2145235742283368917:=()
def tw11250132710413437795:=()
def tw11379061059830153586:=()
def tw4161000569290848659:=()
def tw7468919357558335349:=()
def tw7702503154299565929:=()
def tw5056969417329245806:=()
def tw13443301880677230618:=()
def tw3226845108662052937:=()
def tw14710641075576511468:=()
def tw820808658182498396:=()
def tw4185892203268137245:=()
def tw17253677986613290750:=()
def tw15141033624747950772:=()
def tw1545494762946455923:=()
def tw5323880712738938835:=()
end PySem.W.Fast
open PySem PySem.W PyProof.Rows
set_option maxRecDepth 100000 in
set_option maxHeartbeats 0 in
theorem PySem.Challenge.cw_tierstore_k24_texts_of_runs_holds : PySem.Challenge.rw_tierstore_k24_texts_of_runs.Holds := by
 w_on;o_law;k_head;(case hw=>w_witness2)
 k_fill
 refine T24.walk (l:=PySem.Challenge.rw_tierstore_k24_texts_of_runs) rfl rfl (fun w h Y=>⟨Y.1,Y.2⟩) ?F
 case F =>
  intro w mg fa h KX G K3;refine' T24.all_mk KX G K3 ?xa1 ?xl1 ?xc1 ?xk1 ?xa2 ?xl2 ?xc2 ?xk2 ?xa3 ?xl3 ?xc3 ?xk3 ?xa4 ?xl4 ?xc4 ?xk4 ?xa5 ?xl5 ?xc5 ?xk5 ?xa6 ?xl6 ?xc6 ?xk6 ?xa7 ?xl7 ?xc7 ?xk7 ?xa8 ?xl8 ?xc8 ?xk8 ?xa9 ?xl9 ?xc9 ?xk9 ?xa10 ?xl10 ?xc10 ?xk10 ?xa11 ?xl11 ?xc11 ?xk11 ?xa12 ?xl12 ?xc12 ?xk12 ?xa13 ?xl13 ?xc13 ?xk13 ?xa14 ?xl14 ?xc14 ?xk14 ?xa15 ?xl15 ?xc15 ?xk15 ?xa16 ?xl16 ?xc16 ?xk16 ?xa17 ?xl17 ?xc17 ?xk17 ?xa18 ?xl18 ?xc18 ?xk18 ?xch18 ?xa19 ?xl19 ?xc19 ?xk19 ?xa20 ?xl20 ?xc20 ?xk20 ?xa21 ?xl21 ?xc21 ?xk21 ?xa22 ?xl22 ?xc22 ?xk22 ?xa23 ?xl23 ?xc23 ?xk23 ?xa24 ?xl24 ?xc24 ?xk24 ?xa25 ?xl25 ?xc25 ?xk25 ?xa26 ?xl26 ?xc26 ?xk26 ?xa27 ?xl27 ?xc27 ?xk27 ?xa28 ?xl28 ?xc28 ?xk28 ?xa29 ?xl29 ?xc29 ?xk29 ?xa30 ?xl30 ?xc30 ?xk30 ?xa31 ?xl31 ?xc31 ?xk31 ?xa32 ?xl32 ?xc32 ?xk32 ?xa33 ?xl33 ?xc33 ?xk33 ?xa34 ?xl34 ?xc34 ?xk34 ?xa35 ?xl35 ?xc35 ?xk35 ?xa36 ?xl36 ?xc36 ?xk36 ?xa37 ?xl37 ?xc37 ?xk37 ?xa38 ?xl38 ?xc38 ?xk38 ?xa39 ?xl39 ?xc39 ?xk39 ?xa40 ?xl40 ?xc40 ?xk40 ?xa41 ?xl41 ?xc41 ?xk41 ?xa42 ?xl42 ?xc42 ?xk42 ?xa43 ?xl43 ?xc43 ?xk43 ?xa44 ?xl44 ?xc44 ?xk44 ?xa45 ?xl45 ?xc45 ?xk45 ?xa46 ?xl46 ?xc46 ?xk46 ?xch46 ?xa47 ?xl47 ?xc47 ?xk47 ?xa48 ?xl48 ?xc48 ?xk48 ?xa49 ?xl49 ?xc49 ?xk49 ?xa50 ?xl50 ?xc50 ?xk50 ?xa51 ?xl51 ?xc51 ?xk51 ?xa52 ?xl52 ?xc52 ?xk52 ?xa53 ?xl53 ?xc53 ?xk53 ?xa54 ?xl54 ?xc54 ?xk54 ?xa55 ?xl55 ?xc55 ?xk55 ?xa56 ?xl56 ?xc56 ?xk56 ?xtb__law_in_order ?xtb_probe ?xg_FACTORS ?xl_FACTORS ?xg0 ?xg1 ?xg2 ?xg3 ?xg4 ?xg5 ?xg6 ?xg7 ?xg8 ?xg9 ?xg10 ?xg11 ?xg12 ?xg13 ?xg14 ?xg15 ?xg16 ?xg17 ?xz0 ?xz1 ?xz2 ?xz3 ?xz4 ?xz5 ?xz6 ?xz7 ?xz8 ?xz9 ?xz10 ?xz11 ?xz12 ?xz13 ?xz14 ?xz15
  (case xa1=>k_is);(case xl1=>k_is);(case xc1=>k_is);(case xk1=>k_is);(case xa2=>k_is);(case xl2=>k_is)
  (case xc2=>k_is);(case xk2=>k_is);(case xa3=>k_is);(case xl3=>k_is);(case xc3=>k_is);(case xk3=>k_is)
  (case xa4=>k_is);(case xl4=>k_is);(case xc4=>k_is);(case xk4=>k_is);(case xa5=>k_is);(case xl5=>k_is)
  (case xc5=>k_is);(case xk5=>k_is);(case xa6=>k_is);(case xl6=>k_is);(case xc6=>k_is);(case xk6=>k_is)
  (case xa7=>k_is);(case xl7=>k_is);(case xc7=>k_is);(case xk7=>k_is);(case xa8=>k_is);(case xl8=>k_is)
  (case xc8=>k_is);(case xk8=>k_is);(case xa9=>k_is);(case xl9=>k_is);(case xc9=>k_is);(case xk9=>k_is)
  (case xa10=>k_is);(case xl10=>k_is);(case xc10=>k_is);(case xk10=>k_is);(case xa11=>k_is);(case xl11=>k_is)
  (case xc11=>k_is);(case xk11=>k_is);(case xa12=>k_is);(case xl12=>k_is);(case xc12=>k_is);(case xk12=>k_is)
  (case xa13=>k_is);(case xl13=>k_is);(case xc13=>k_is);(case xk13=>k_is);(case xa14=>k_is);(case xl14=>k_is)
  (case xc14=>k_is);(case xk14=>k_is);(case xa15=>k_is);(case xl15=>k_is);(case xc15=>k_is);(case xk15=>k_is)
  (case xa16=>k_is);(case xl16=>k_is);(case xc16=>k_is);(case xk16=>k_is);(case xa17=>k_is);(case xl17=>k_is)
  (case xc17=>k_is);(case xk17=>k_is);(case xa18=>k_is);(case xl18=>k_is);(case xc18=>k_is);(case xk18=>k_is)
  (case xch18=>kernel_rfl);(case xa19=>k_is);(case xl19=>k_is);(case xc19=>k_is);(case xk19=>k_is);(case xa20=>k_is)
  (case xl20=>k_is);(case xc20=>k_is);(case xk20=>k_is);(case xa21=>k_is);(case xl21=>k_is);(case xc21=>k_is)
  (case xk21=>k_is);(case xa22=>k_is);(case xl22=>k_is);(case xc22=>k_is);(case xk22=>k_is);(case xa23=>k_is)
  (case xl23=>k_is);(case xc23=>k_is);(case xk23=>k_is);(case xa24=>k_is);(case xl24=>k_is);(case xc24=>k_is)
  (case xk24=>k_is);(case xa25=>k_is);(case xl25=>k_is);(case xc25=>k_is);(case xk25=>k_is);(case xa26=>k_is)
  (case xl26=>k_is);(case xc26=>k_is);(case xk26=>k_is);(case xa27=>k_is);(case xl27=>k_is);(case xc27=>k_is)
  (case xk27=>k_is);(case xa28=>k_is);(case xl28=>k_is);(case xc28=>k_is);(case xk28=>k_is);(case xa29=>k_is)
  (case xl29=>k_is);(case xc29=>k_is);(case xk29=>k_is);(case xa30=>k_is);(case xl30=>k_is);(case xc30=>k_is)
  (case xk30=>k_is);(case xa31=>k_is);(case xl31=>k_is);(case xc31=>k_is);(case xk31=>k_is);(case xa32=>k_is)
  (case xl32=>k_is);(case xc32=>k_is);(case xk32=>k_is);(case xa33=>k_is);(case xl33=>k_is);(case xc33=>k_is)
  (case xk33=>k_is);(case xa34=>k_is);(case xl34=>k_is);(case xc34=>k_is);(case xk34=>k_is);(case xa35=>k_is)
  (case xl35=>k_is);(case xc35=>k_is);(case xk35=>k_is);(case xa36=>k_is);(case xl36=>k_is);(case xc36=>k_is)
  (case xk36=>k_is);(case xa37=>k_is);(case xl37=>k_is);(case xc37=>k_is);(case xk37=>k_is);(case xa38=>k_is)
  (case xl38=>k_is);(case xc38=>k_is);(case xk38=>k_is);(case xa39=>k_is);(case xl39=>k_is);(case xc39=>k_is)
  (case xk39=>k_is);(case xa40=>k_is);(case xl40=>k_is);(case xc40=>k_is);(case xk40=>k_is);(case xa41=>k_is)
  (case xl41=>k_is);(case xc41=>k_is);(case xk41=>k_is);(case xa42=>k_is);(case xl42=>k_is);(case xc42=>k_is)
  (case xk42=>k_is);(case xa43=>k_is);(case xl43=>k_is);(case xc43=>k_is);(case xk43=>k_is);(case xa44=>k_is)
  (case xl44=>k_is);(case xc44=>k_is);(case xk44=>k_is);(case xa45=>k_is);(case xl45=>k_is);(case xc45=>k_is)
  (case xk45=>k_is);(case xa46=>k_is);(case xl46=>k_is);(case xc46=>k_is);(case xk46=>k_is);(case xch46=>kernel_rfl)
  (case xa47=>k_is);(case xl47=>k_is);(case xc47=>k_is);(case xk47=>k_is);(case xa48=>k_is);(case xl48=>k_is)
  (case xc48=>k_is);(case xk48=>k_is);(case xa49=>k_is);(case xl49=>k_is);(case xc49=>k_is);(case xk49=>k_is)
  (case xa50=>k_is);(case xl50=>k_is);(case xc50=>k_is);(case xk50=>k_is);(case xa51=>k_is);(case xl51=>k_is)
  (case xc51=>k_is);(case xk51=>k_is);(case xa52=>k_is);(case xl52=>k_is);(case xc52=>k_is);(case xk52=>k_is)
  (case xa53=>k_is);(case xl53=>k_is);(case xc53=>k_is);(case xk53=>k_is);(case xa54=>k_is);(case xl54=>k_is)
  (case xc54=>k_is);(case xk54=>k_is);(case xa55=>k_is);(case xl55=>k_is);(case xc55=>k_is);(case xk55=>k_is)
  (case xa56=>k_is);(case xl56=>k_is);(case xc56=>k_is);(case xk56=>k_is);(case xtb__law_in_order=>kernel_rfl);(case xtb_probe=>kernel_rfl)
  (case xg_FACTORS=>k_is);(case xl_FACTORS=>k_is);(case xg0=>k_is);(case xg1=>k_is);(case xg2=>k_is);(case xg3=>k_is)
  (case xg4=>k_is);(case xg5=>k_is);(case xg6=>k_is);(case xg7=>k_is);(case xg8=>k_is);(case xg9=>k_is)
  (case xg10=>k_is);(case xg11=>k_is);(case xg12=>k_is);(case xg13=>k_is);(case xg14=>k_is);(case xg15=>k_is)
  (case xg16=>k_is);(case xg17=>k_is);(case xz0=>k_is);(case xz1=>k_is);(case xz2=>k_is);(case xz3=>k_is)
  (case xz4=>k_is);(case xz5=>k_is);(case xz6=>k_is);(case xz7=>k_is);(case xz8=>k_is);(case xz9=>k_is)
  (case xz10=>k_is);(case xz11=>k_is);(case xz12=>k_is);(case xz13=>k_is);(case xz14=>k_is);(case xz15=>k_is)
