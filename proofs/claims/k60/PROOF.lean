import PyProof.Rows.All
import Wide.All
import OpenK.AllK
import Wide.FinOn
import Lean
import PyProof.EqAt
import PyProof.EqKinds
import PyProof.TupleCall
import PyProof.NeKinds
import PyProof.ListMulRoad
import PyProof.TupleOps
import PyProof.FactsAll.tuple_2
import PyProof.Rows.SeqMore
import KE.KRevSl
import KE.KRevIter
import KE.KIntText
import PyProof.Rows.RuleB_lshift
import PyProof.Rows.StrJoin2
import PyProof.Rows.StrNews2
import PyProof.Rows.FStr
import PyProof.Rows.StrFromFirst
import PyProof.Rows.StrLawsPart
import PyProof.Rows.RegReprOcc
import PyProof.Rows.SetFrom
import PyProof.AutoSeq1
import OpenK.KRaise
import PyProof.Rows.Own
import OpenK.KOwn
import PyProof.ExcBaseAll.ValueError
import KE.KIsAll
import PyProof.ExcInit
import PyProof.ExcClass2
import OpenK.KCls
import OpenK.KWalk
import PySem.Challenge.RW_tierstore_k60_parts_tell
set_option Elab.async false
set_option linter.all false
set_option maxRecDepth 100000
namespace L2
open PySem PySem.Spec PyProof.Rows
variable {us:List Value} {x m:Str} {u:Value} {a b f dx C:Addr} {P:Program} {w:World} {h h' base:Heap} {e c tg:Expr} {pins:List (Addr × Obj)} {s s':Shared} {t' i j k n:Nat} {ch fp:List Addr} {M:Model} {A:Around} {pos p:Pos} {K:W.Frag} {es:List Expr} {op:CmpOp} {mA mg:Str->Option Value} {pl:Sem Bool} {kw:List (Str × Value)} {fd:FuncData} {ps:List Str} {kindOf:Str->Option NameKind}
abbrev Key:=Sum Int Str
def rN:Key->Value->Bool
 | .inl k,v=>Value.isInt k v
 | .inr x,v=>Value.isStrOf x v
def QP (w:World):Key->Int
 | .inl k=>hashInt k
 | .inr x=>hashStr w x
theorem bz:∀ {k:Key} {v:Value},rN k v = true->(∃ i t,k = Sum.inl i/\v = Value.int i t) \/ (∃ x t,k = Sum.inr x/\v = Value.str x t)
 | .inl i,v,h=>by
  obtain ⟨t,e⟩:=Value.isInt_shape (k:=i) (v:=v) h;exact .inl ⟨i,t,rfl,e⟩
 | .inr x,v,h=>by
  obtain ⟨t,e⟩:=Value.isStrOf_shape (x:=x) (v:=v) h;exact .inr ⟨x,t,rfl,e⟩
theorem AU (i:Int) (t:Tok):rN (.inl i) (.int i t) = true:=by simp [rN,Value.isInt]
theorem AS (x:Str) (t:Tok):rN (.inr x) (.str x t) = true:=by simp [rN,Value.isStrOf]
theorem LG (a b:Int):decide ((Sum.inl a:Key) = Sum.inl b) = (a == b):=by
 by_cases e:a = b
 ·subst e;simp
 ·have h:¬ (Sum.inl a:Key) = Sum.inl b:=fun q=>e (Sum.inl.inj q)
  rw [decide_eq_false h];exact (beq_eq_false_iff_ne.mpr e).symm
theorem LC (a b:Str):decide ((Sum.inr a:Key) = Sum.inr b) = decide (a = b):=by
 by_cases e:a = b
 ·subst e;simp
 ·have h:¬ (Sum.inr a:Key) = Sum.inr b:=fun q=>e (Sum.inr.inj q)
  rw [decide_eq_false h,decide_eq_false e]
theorem LF (a:Int) (b:Str):decide ((Sum.inl a:Key) = Sum.inr b) = false:=decide_eq_false (fun q=>nomatch q)
theorem LD (a:Str) (b:Int):decide ((Sum.inr a:Key) = Sum.inl b) = false:=decide_eq_false (fun q=>nomatch q)
def ba (prog:Program) (w:World):PySem.KeyKind prog w Key where
 is:=rN
 hash:=QP w
 inj:=fun v a b ha hb=>by
  rcases bz ha with ⟨i,t,rfl,rfl⟩ | ⟨x,t,rfl,rfl⟩
  ·rcases bz hb with ⟨j,u,rfl,e⟩ | ⟨y,u,rfl,e⟩
   ·injection e with e1 _;rw [e1]
   ·exact nomatch e
  ·rcases bz hb with ⟨j,u,rfl,e⟩ | ⟨y,u,rfl,e⟩
   ·exact nomatch e
   ·injection e with e1 _;rw [e1]
 byValue:=fun k v h=>by
  rcases bz h with ⟨i,t,rfl,rfl⟩ | ⟨x,t,rfl,rfl⟩ <;> rfl
 pyHash:=fun hv h=>by
  rcases bz hv with ⟨i,t,rfl,rfl⟩ | ⟨x,t,rfl,rfl⟩
  ·exact wpAny_pyHash_int h
  ·exact wpAny_pyHash_str h
 eqBool:=fun hu hv h=>by
  rcases bz hu with ⟨i,t,rfl,rfl⟩ | ⟨x,t,rfl,rfl⟩
  ·rcases bz hv with ⟨j,u,rfl,rfl⟩ | ⟨y,u,rfl,rfl⟩
   ·rw [LG] at h;exact wpAny_eqBool_int h
   ·rw [LF] at h;exact SeqAt.EqAt.int_str i t y u _ _ _ _ h
  ·rcases bz hv with ⟨j,u,rfl,rfl⟩ | ⟨y,u,rfl,rfl⟩
   ·rw [LD] at h;exact SeqAt.EqAt.str_int x t j u _ _ _ _ h
   ·rw [LC] at h;exact wpAny_eqBool_str h
 «strs»:=fun k x t v h=>by
  rcases bz h with ⟨i,u,rfl,e⟩ | ⟨y,u,rfl,e⟩
  ·exact nomatch e
  ·injection e with e1 _
   subst e1
   cases v <;> rfl
theorem vR (prog:Program) (w:World) (i:Int) (t:Tok):(ba prog w).is (.inl i) (.int i t) = true:=AU i t
theorem vQ (prog:Program) (w:World) (x:Str) (t:Tok):(ba prog w).is (.inr x) (.str x t) = true:=AS x t
inductive V where
 | non | bl (b:Bool) | int (i:Int) | str (x:Str) | byt (b:Array UInt8) | flt (b:UInt64) | ref (a:Addr) | ty (n:String)
 deriving DecidableEq
variable {xs vs:List V} {v y:V}
def RelV:V->Value->Prop
 | .non,u=>u = Value.none
 | .bl b,u=>u = Value.bool b
 | .int i,u=>∃ t,u = Value.int i t
 | .str x,u=>∃ t,u = Value.str x t
 | .byt b,u=>∃ t,u = Value.bytes b t
 | .flt b,u=>∃ t,u = Value.float b t
 | .ref a,u=>u = Value.ref a
 | .ty n,u=>u = Value.type n
abbrev Vals:List V->List Value->Prop:=Paired RelV
theorem Vals.length (r:Vals xs us):xs.length = us.length:=Paired.length r
theorem Vals.get:∀ {xs:List V} {us:List Value} {i:Nat} {x:V},Vals xs us->xs[i]? = some x->∃ u,us[i]? = some u/\RelV x u
 | _,_,_,_,.nil,e=>by simp at e
 | _,_,0,_,.cons r _,e=>by simp at e;subst e;exact ⟨_,rfl,r⟩
 | _,_,i + 1,x,.cons _ t,e=>by
  obtain ⟨u,h1,h2⟩:=Vals.get (i:=i) (x:=x) t (by simpa using e);exact ⟨u,by simpa using h1,h2⟩
theorem Vals.set {x:V} {u:Value} (r:RelV x u):∀ {xs:List V} {us:List Value} (i:Nat),Vals xs us->Vals (xs.set i x) (us.set i u)
 | _,_,_,.nil=>.nil
 | _,_,0,.cons _ t=>.cons r t
 | _,_,i + 1,.cons q t=>.cons q (Vals.set r i t)
theorem Vals.append:∀ {xs ys:List V} {us ws:List Value},Vals xs us->Vals ys ws->Vals (xs ++ ys) (us ++ ws)
 | _,_,_,_,.nil,s=>s
 | _,_,_,_,.cons r t,s=>.cons r (Vals.append t s)
theorem Vals.take:∀ {xs:List V} {us:List Value} (n:Nat),Vals xs us->Vals (xs.take n) (us.take n)
 | _,_,0,_=>.nil
 | _,_,_ + 1,.nil=>.nil
 | _,_,n + 1,.cons r t=>.cons r (Vals.take n t)
theorem Vals.drop:∀ {xs:List V} {us:List Value} (n:Nat),Vals xs us->Vals (xs.drop n) (us.drop n)
 | _,_,0,r=>r
 | _,_,_ + 1,.nil=>.nil
 | _,_,n + 1,.cons _ t=>Vals.drop n t
def RelO:Option V->Option Value->Prop
 | some v,some u=>RelV v u
 | none,none=>True
 | _,_=>False
def KV {κ:Type}:List (κ × V)->List (κ × Value)->Prop:=Paired fun (p:κ × V) (q:κ × Value)=>p.1 = q.1/\RelV p.2 q.2
def kV:Key->V
 | .inl i=>.int i
 | .inr x=>.str x
inductive HO where
 | lst (xs:List V)
 | tup (xs:List V)
 | dK (kvs:List (Key × V)) | dT (kvs:List (List Key × V))
 | set (S:Int->Bool) (n:Nat)
 | ins (C dx:Addr) (fs:List (Str × V))
 | own (x:Addr)
 | xd (fs:List (Str × V))
 | met (f x:Addr)
 | rng (lo hi:Int)
 | frz (o:Obj) (u:HO)
 | tbl (ps:Array Value)
 | ext (φ:Heap->Prop)
variable {o:HO}
abbrev Hp:=Addr->Option HO
variable {H H':Hp}
def upd (H:Hp) (a:Addr) (o:HO):Hp:=fun b=>if b = a then some o else H b
theorem ak:upd H a o a = some o:=by unfold upd;rw [if_pos rfl]
theorem aj (h:b ≠ a):upd H a o b = H b:=by unfold upd;rw [if_neg h]
theorem NS {u:HO} (h:H a = some o) (h':H b = some u) (d:o ≠ u):a ≠ b:=by
 intro e;subst e;rw [h] at h';exact d (Option.some.inj h')
theorem aY (h:H a = some o) (h':H b = none):a ≠ b:=by
 intro e;subst e;rw [h] at h';cases h'
section
variable (P:Program) (w:World)
def ObjOk (H:Hp) (h:Heap) (a:Addr):HO->Prop
 | .lst xs=>xs.length <= sizeLine/\∃ (its:List Value) (n:Nat),Vals xs its/\h.get? a = some { cls:=.type "list",data:=.seq its.toArray n }
 | .tup xs=>xs.length <= sizeLine/\∃ its:List Value,Vals xs its/\IsTup h a its.toArray
 | .dK kvs=>kvs.length <= sizeLine/\(a == sysModules) = false/\∃ vs,KV kvs vs/\h.DictOf (ba P w) a vs
 | .dT kvs => kvs.length <= sizeLine /\ (a == sysModules) = false /\ ∃ xs : List (List Key × Addr × Value),
     Paired (fun (p:List Key × V) (q:List Key × Addr × Value)=>p.1 = q.1/\H q.2.1 = some (.tup (p.1.map kV))/\RelV p.2 q.2.2) kvs xs /\
     ∃ o es ep,h.get? a = some o/\o.ExactDict/\o.data = .dict es ep/\es.toList = xs.map (entryOfKey (tupleKind (ba P w)))/\(xs.map (·.1)).Nodup
 | .set S n=>h.SetOf (intKind P w) a S n
 | .ins C dx fs => H dx = some (.own a) /\ fs.length <= 1000 /\ dx ≠ a /\ h.get? a = some (W.instObj C dx) /\
     ∃ mA,h.Ns1 dx mA/\(∀ f,RelO (fs.lookup f) (mA f))/\PySem.Within mA (fs.map (·.1))
 | .own _=>∃ o,h.get? a = some o
 | .xd fs=>∃ mA,h.Ns1 a mA/\∀ f,RelO (fs.lookup f) (mA f)
 | .rng lo hi=>∃ t u v,h.get? a = some { cls:=.type "range",data:=.fields #[.int lo t,.int hi u,.int 1 v] }
 | .frz o u=>h.get? a = some o/\ObjOk H h a u
 | .tbl ps=>h.get? a = some { cls:=.none,data:=.fields ps }
 | .met f x=>h.get? a = some (W.methodObj (.ref f) (.ref x))
 | .ext φ=>φ h/\(∃ o,h.get? a = some o)/\∀ h1 h2:Heap,φ h1->(∀ o,h1.get? a = some o->h2.get? a = some o)->φ h2
def HOk (H:Hp) (h:Heap):Prop:=∀ a o,H a = some o->ObjOk P w H h a o
end
section
theorem ObjOk.lt (x:ObjOk P w H h a o):a < h.objs.size:=by
 cases o with
 | lst xs=>obtain ⟨_,_,_,_,e⟩:=x;exact Heap.lt_size e
 | tup xs=>obtain ⟨_,_,_,p⟩:=x;exact p.lt
 | dK kvs=>obtain ⟨_,_,_,_,o,_,_,e,_⟩:=x;exact Heap.lt_size e
 | dT kvs=>obtain ⟨_,_,_,_,o,_,_,e,_⟩:=x;exact Heap.lt_size e
 | set S n=>obtain ⟨o,_,_,_,e,_⟩:=x;exact Heap.lt_size e
 | ins C dx fs=>obtain ⟨_,_,_,e,_⟩:=x;exact Heap.lt_size e
 | own y=>obtain ⟨_,e⟩:=x;exact Heap.lt_size e
 | xd fs=>obtain ⟨_,⟨_,_,_,e,_⟩,_⟩:=x;exact Heap.lt_size e
 | rng lo hi=>obtain ⟨_,_,_,e⟩:=x;exact Heap.lt_size e
 | frz ob u=>obtain ⟨e,_⟩:=x;exact Heap.lt_size e
 | tbl ps=>exact Heap.lt_size (show h.get? a = some _ from x)
 | met f y=>exact Heap.lt_size (show h.get? a = some _ from x)
 | ext φ=>obtain ⟨_,⟨_,e⟩,_⟩:=x;exact Heap.lt_size e
theorem Paired.mapP {α β:Type} {F G:α->β->Prop}:∀ {l₁:List α} {l₂:List β},Paired F l₁ l₂->(∀ a b,F a b->G a b)->Paired G l₁ l₂
 | _,_,.nil,_=>.nil
 | _,_,.cons r t,f=>.cons (f _ _ r) (Paired.mapP t f)
theorem ObjOk.stay (x : ObjOk P w H h a o) (k : ∀ b u, (b = a \/ H b = some (.own a)) -> h.get? b = some u -> h'.get? b = some u)
    (ho:∀ b,H b = some (.own a)->H' b = some (.own a)) (ht:∀ b xs,H b = some (.tup xs)->H' b = some (.tup xs)):ObjOk P w H' h' a o:=by
 induction o with
 | lst xs=>obtain ⟨z,its,n,r,e⟩:=x;exact ⟨z,its,n,r,k _ _ (.inl rfl) e⟩
 | tup xs=>obtain ⟨z,its,r,ob,e,c⟩:=x;exact ⟨z,its,r,ob,k _ _ (.inl rfl) e,c⟩
 | dK kvs=>obtain ⟨z,y,vs,r,ob,es,ep,e,c⟩:=x;exact ⟨z,y,vs,r,ob,es,ep,k _ _ (.inl rfl) e,c⟩
 | dT kvs =>
  obtain ⟨z,y,xs,r,ob,es,ep,e,c⟩:=x;exact ⟨z,y,xs,Paired.mapP r fun p q z=>⟨z.1,ht _ _ z.2.1,z.2.2⟩,ob,es,ep,k _ _ (.inl rfl) e,c⟩
 | set S n=>obtain ⟨ob,es,ep,t,e,c⟩:=x;exact ⟨ob,es,ep,t,k _ _ (.inl rfl) e,c⟩
 | ins C dx fs =>
  obtain ⟨d,z,ne,e,mA,⟨od,es,ep,e2,c⟩,r⟩:=x;exact ⟨ho _ d,z,ne,k _ _ (.inl rfl) e,mA,⟨od,es,ep,k _ _ (.inr d) e2,c⟩,r⟩
 | own y=>obtain ⟨ob,e⟩:=x;exact ⟨ob,k _ _ (.inl rfl) e⟩
 | xd fs=>obtain ⟨mA,⟨od,es,ep,e,c⟩,r⟩:=x;exact ⟨mA,⟨od,es,ep,k _ _ (.inl rfl) e,c⟩,r⟩
 | rng lo hi=>obtain ⟨t,u,v,e⟩:=x;exact ⟨t,u,v,k _ _ (.inl rfl) e⟩
 | frz ob u ih=>obtain ⟨e,q⟩:=x;exact ⟨k _ _ (.inl rfl) e,ih q⟩
 | tbl ps =>
  have e:h.get? a = some { cls:=.none,data:=.fields ps }:=x;show h'.get? a = some { cls:=.none,data:=.fields ps };exact k a _ (.inl rfl) e
 | met f y =>
  have e:h.get? a = some (W.methodObj (.ref f) (.ref y)):=x;show h'.get? a = some (W.methodObj (.ref f) (.ref y));exact k a _ (.inl rfl) e
 | ext φ=>obtain ⟨p,⟨o,e⟩,st⟩:=x;exact ⟨st _ _ p fun o q=>k _ _ (.inl rfl) q,⟨o,k _ _ (.inl rfl) e⟩,st⟩
theorem HOk.lt (x:HOk P w H h) (e:H a = some o):a < h.objs.size:=(x a o e).lt
theorem HOk.fresh (x:HOk P w H h) (e:h.objs.size <= a):H a = none:=by
 cases q:H a with
 | none=>rfl
 | some u=>exact absurd (Nat.lt_of_lt_of_le (x.lt q) e) (Nat.lt_irrefl _)
theorem HOk.kept (x:HOk P w H h) (k:∀ b u,h.get? b = some u->h'.get? b = some u):HOk P w H h':=fun a o e =>
 (x a o e).stay (fun b u _ q=>k b u q) (fun _ q=>q) fun _ _ q=>q
theorem HOk.laid (x:HOk P w H h) (k:∀ b u,h.get? b = some u->h'.get? b = some u) (hp:h.objs.size <= a) (new:ObjOk P w (upd H a o) h' a o):HOk P w (upd H a o) h':=fun b u e=>by
 have hn:=x.fresh hp
 by_cases hb:b = a
 ·subst hb;rw [ak] at e;cases e;exact new
 ·rw [aj hb] at e;exact (x b u e).stay (fun c v _ q=>k c v q) (fun c q=>by rw [aj (aY q hn)];exact q) fun c xs q=>by rw [aj (aY q hn)];exact q
end
def Rd (H:Hp) (a:Addr) (u:HO):Prop:=H a = some u \/ ∃ o,H a = some (.frz o u)
theorem Rd.ok {u:HO} (r:Rd H a u) (x:HOk P w H h):ObjOk P w H h a u:=by
 rcases r with r | ⟨o,r⟩
 ·exact x a u r
 ·obtain ⟨_,q⟩:=x a _ r;exact q
def O8:Option HO->Prop
 | some (.lst _)=>True
 | some (.dK _)=>True
 | some (.dT _)=>True
 | some (.set _ _)=>True
 | some (.ins _ _ _)=>True
 | some (.ext _)=>True
 | _=>False
section
variable {x e:Addr} {o':HO}
theorem HOk.write (ok : HOk P w H h) (mu : O8 (H x)) (he : e = x \/ H e = some (.own x)) (k : ∀ b u, b ≠ e -> h.get? b = some u -> h'.get? b = some u) (MX : ∃ u, h'.get? e = some u)
    (new:ObjOk P w (upd H x o') h' x o'):HOk P w (upd H x o') h':=fun b u q=>by
 have NQ:∀ c y,H c = some (.own y)->c ≠ x:=fun c y r z=>by subst z;rw [r] at mu;exact mu
 have QJ:∀ c xs,H c = some (.tup xs)->c ≠ x:=fun c xs r z=>by subst z;rw [r] at mu;exact mu
 by_cases hb:b = x
 ·subst hb;rw [ak] at q;cases q;exact new
 ·rw [aj hb] at q
  by_cases Me:b = e
  ·have q':H b = some (.own x):=by
    rcases he with z | z
    ·exact absurd (Me.trans z) hb
    ·rw [Me];exact z
   rw [q] at q';cases q';obtain ⟨v,hv⟩:=MX;exact ⟨v,by rw [Me];exact hv⟩
  ·refine (ok b u q).stay (fun c v hc r=>k c v ?_ r) (fun c r=>by rw [aj (NQ c b r)];exact r) fun c xs r=>by rw [aj (QJ c xs r)];exact r
   rcases hc with rfl | hc
   ·exact Me
   ·rintro rfl
    rcases he with z | z
    ·exact NQ c b hc z
    ·rw [hc] at z;cases z;exact hb rfl
end
structure Un (fs ex:List Addr) (H H':Hp) (h h':Heap):Prop where
 keep:∀ b o,h.get? b = some o->H b = none->b ∉ fs->b ∉ ex->h'.get? b = some o
 slot:∀ b o,h.get? b = some o->H b = none->b ∈ fs->b ∉ ex->∃ sl,h'.get? b = some { o with slots:=sl }
 free:∀ b o,h.get? b = some o->H b = none->b ∉ ex->H' b = none
 there:∀ b o,h.get? b = some o->b ∉ ex->∃ o',h'.get? b = some o'
 tups:∀ b xs,H b = some (.tup xs)->H' b = some (.tup xs)
 frzs:∀ b o u,H b = some (.frz o u)->H' b = some (.frz o u)
 tbls:∀ b ps,H b = some (.tbl ps)->∃ more,H' b = some (.tbl (ps ++ more))
section
variable {fs M5 ex Uq:List Addr} {H1 H2:Hp} {h1 h2:Heap} {x e:Addr}
theorem Un.any (u:Un fs ex H H1 h h1) {ob:Obj} (q:h.get? b = some ob) (n:H b = none) (hx:b ∉ ex):∃ sl,h1.get? b = some { ob with slots:=sl }:=by
 by_cases hb:b ∈ fs
 ·exact u.slot b ob q n hb hx
 ·exact ⟨ob.slots,u.keep b ob q n hb hx⟩
theorem Un.trans (a:Un fs ex H H1 h h1) (b:Un fs ex H1 H2 h1 h2):Un fs ex H H2 h h2 where
 keep:=fun c ob q n hc hx=>b.keep c ob (a.keep c ob q n hc hx) (a.free c ob q n hx) hc hx
 slot:=fun c ob q n hc hx=>by
  obtain ⟨sl,e1⟩:=a.slot c ob q n hc hx;obtain ⟨Ql,e2⟩:=b.slot c _ e1 (a.free c ob q n hx) hc hx;exact ⟨Ql,e2⟩
 free:=fun c ob q n hx=>by
  obtain ⟨o',e1⟩:=a.there c ob q hx;exact b.free c o' e1 (a.free c ob q n hx) hx
 there:=fun c ob q hx=>by
  obtain ⟨o',e1⟩:=a.there c ob q hx;exact b.there c o' e1 hx
 tups:=fun c xs q=>b.tups c xs (a.tups c xs q)
 frzs:=fun c ob xs q=>b.frzs c ob xs (a.frzs c ob xs q)
 tbls:=fun c ps q=>by
  obtain ⟨m1,e1⟩:=a.tbls c ps q;obtain ⟨m2,e2⟩:=b.tbls c _ e1;exact ⟨m1 ++ m2,by rw [e2,Array.append_assoc]⟩
theorem Un.kept (k:∀ b u,h.get? b = some u->h'.get? b = some u):Un fs ex H H h h' :=
 ⟨fun b ob q _ _ _=>k b ob q,fun b ob q _ _ _=>⟨ob.slots,k b ob q⟩,fun _ _ _ n _=>n,fun b ob q _=>⟨ob,k b ob q⟩,fun _ _ q=>q,fun _ _ _ q=>q,fun _ ps q=>⟨#[],by rw [q];simp⟩⟩
theorem Un.refl:Un fs ex H H h h:=Un.kept fun _ _ q=>q
theorem Un.laid (k:∀ b u,h.get? b = some u->h'.get? b = some u) (hp:h.objs.size <= a) (hn:H a = none):Un fs ex H (upd H a o) h h' where
 keep:=fun b u q _ _ _=>k b u q
 slot:=fun b u q _ _ _=>⟨u.slots,k b u q⟩
 free:=fun b u q n _=>by rw [aj (Nat.ne_of_lt (Nat.lt_of_lt_of_le (Heap.lt_size q) hp))];exact n
 there:=fun b u q _=>⟨u,k b u q⟩
 tups:=fun b xs q=>by rw [aj (aY q hn)];exact q
 frzs:=fun b u xs q=>by rw [aj (aY q hn)];exact q
 tbls:=fun b ps q=>⟨#[],by rw [aj (aY q hn),q];simp⟩
theorem Un.write (mu:O8 (H x)) (he:e = x \/ H e = some (.own x)) (k:∀ b u,b ≠ e->h.get? b = some u->h'.get? b = some u) (MX:∃ u,h'.get? e = some u):Un fs ex H (upd H x o) h h':=by
 have hx:∀ b,H b = none->b ≠ x:=fun b n z=>by subst z;rw [n] at mu;exact mu
 have hb:∀ b,H b = none->b ≠ e:=fun b n z=>by
  subst z
  rcases he with r | r
  ·exact hx b n r
  ·rw [n] at r;cases r
 have hm:∀ b u,H b = some u->¬ O8 (some u)->b ≠ x:=fun b u q nm z=>by subst z;rw [q] at mu;exact nm mu
 refine ⟨fun b u q n _ _=>k b u (hb b n) q,fun b u q n _ _=>⟨u.slots,k b u (hb b n) q⟩,fun b u q n _=>by rw [aj (hx b n)];exact n,fun b u q _=>?_,
  fun b xs q=>by rw [aj (hm b _ q fun z=>z)];exact q,fun b u xs q=>by rw [aj (hm b _ q fun z=>z)];exact q,fun b ps q=>⟨#[],by rw [aj (hm b _ q fun z=>z),q];simp⟩⟩
 by_cases Me:b = e
 ·subst Me;exact MX
 ·exact ⟨u,k b u Me q⟩
theorem Un.mono (u:Un fs ex H H1 h h1) (hs:∀ b ∈ fs,b ∈ M5) (hx:∀ b ∈ ex,b ∈ Uq):Un M5 Uq H H1 h h1 :=
 ⟨fun b ob q n hb he=>u.keep b ob q n (fun z=>hb (hs b z)) fun z=>he (hx b z),fun _ _ q n _ he=>u.any q n fun z=>he (hx _ z),fun b ob q n he=>u.free b ob q n fun z=>he (hx b z),fun b ob q he=>u.there b ob q fun z=>he (hx b z),u.tups,u.frzs,u.tbls⟩
end
def Pk (h:Heap) (H:Hp):List Addr:=(List.range h.objs.size).filter fun a=>(H a).isSome
def qA (h:Heap) (H:Hp):Heap:=W.hideAll h (Pk h H)
theorem A5 (h:Heap) (H:Hp):(qA h H).objs.size = h.objs.size:=W.hideAll_size _ _
theorem Eh {o:Obj} (e:h.get? b = some o) (n:H b = none):(qA h H).get? b = some o :=
 W.hideAll_get _ e fun hm=>by
  have q:(H b).isSome = true:=(List.mem_filter.mp hm).2;rw [n] at q;simp at q
theorem Hc {o:Obj} (e:(qA h H).get? b = some o):h.get? b = some o/\H b = none:=by
 have e':h.get? b = some o:=W.of_hideAll (Pk h H) e;refine ⟨e',?_⟩
 cases q:H b with
 | none=>rfl
 | some x =>
  have hm:b ∈ Pk h H:=List.mem_filter.mpr ⟨List.mem_range.mpr (Heap.lt_size e'),by simp [q]⟩;have z:(qA h H).get? b = none:=W.hideAll_none (Pk h H) hm;rw [z] at e;cases e
structure Mod (K:W.Frag) (mg:Str->Option Value) (base:Heap):Prop where
 kin:K.In base
 glob:base.Ns mainGlobals mg
 blt:∃ mb,base.Ns builtinsNs mb/\∀ x:Str,x ≠ "__name__"->mb x = bootBuiltins x
 nolimit:base.NoLimit
structure Cx where
 prog:Program
 w:World
 K:W.Frag
 mg:Str->Option Value
 base:Heap
 A:Around
 N:List Str
 s₀:Shared
 H₀:Hp
 env:Env
 outer:List Env
 stack:List Env
 ex:List Addr
 fn:Str->Bool
 calm:Bool
 pn:List (Addr × Obj)
 xe:Value->Shared->Prop
variable {X:Cx}
def rT (l:List Env):List Addr:=l.filterMap (·.frame)
abbrev Cx.fs (X:Cx):List Addr:=rT X.outer
def P4 (sc:Scope) (x:Str):Prop:=sc.names.lookup x = some .local \/ sc.names.lookup x = some .cell \/ sc.names.lookup x = some .free
def Loc (sc:Scope) (x:Str):Prop:=sc.names.lookup x = some .local \/ sc.names.lookup x = some .cell
def Look (env:Env) (h:Heap) (m:Str->Option Value) (x:Str) (u:Value):Prop :=
 (env.kindOf x = some .local/\m x = some u) \/ ((env.kindOf x = some .cell \/ env.kindOf x = some .free)/\∃ c,env.cells.lookup x = some c/\h.IsCell c (some u))
structure Cx.Ok (X:Cx):Prop where
 mod:Mod X.K X.mg X.base
 kind:X.env.scope.kind = .function
 glob:X.env.globals = mainGlobals
 blt:X.env.builtins = builtinsNs
 above:X.s₀.heap.objs.size <= X.env.locals
 inj:∀ x y c,X.env.cells.lookup x = some c->X.env.cells.lookup y = some c->x = y
 has:∀ x,(X.env.kindOf x = some .cell \/ X.env.kindOf x = some .free)->∃ c,X.env.cells.lookup x = some c
 cab:∀ x c,X.fn x = true->X.env.cells.lookup x = some c->X.s₀.heap.objs.size <= c
 hd:X.calm = true->X.A.handled = none
 frames:X.A.frames = some X.stack
 stk:X.stack = X.outer \/ (X.stack = X.env :: X.outer/\X.env.frame = some X.env.locals)
 exf:∀ b ∈ X.ex,b ≠ X.env.locals/\∀ x c,X.env.cells.lookup x = some c->c ≠ b
 bs:∀ b o,X.base.get? b = some o->X.s₀.heap.get? b = some o/\X.H₀ b = none
 bsz:X.base.objs.size <= X.s₀.heap.objs.size
 noex:∀ b o,X.base.get? b = some o->b ∉ X.ex
 exfs:∀ b ∈ X.ex,b ∉ X.fs
 funs:X.s₀.heap.FunFrames X.base X.outer
 frf:∀ b ∈ X.fs,X.H₀ b = none
structure Inv (X:Cx) (pins:List (Addr × Obj)) (σ:List (Option V)) (H:Hp) (s:Shared):Prop where
 ok:X.Ok
 os:s.os = X.s₀.os
 bare:AllBare s.gens
 base:Un X.fs X.ex X.H₀ H X.s₀.heap s.heap
 loc:∃ m,s.heap.Ns X.env.locals m/\∀ (i:Nat) (x:Str) (v:V),X.N[i]? = some x->σ[i]? = some (some v)->P4 X.env.scope x->∃ u,RelV v u/\Look X.env s.heap m x u
 cell:∀ x c,X.env.cells.lookup x = some c->∃ v,s.heap.IsCell c v
 free:H X.env.locals = none
 freeC:∀ x c,X.env.cells.lookup x = some c->H c = none
 pin:∀ p ∈ X.pn ++ pins,s.heap.get? p.1 = some p.2/\H p.1 = none/\p.1 ≠ X.env.locals/\p.1 ∉ X.fs/\∀ v,p.2.data ≠ .cell v
 hok:HOk X.prog X.w H s.heap
 len:σ.length = X.N.length
section
variable {σ:List (Option V)}
theorem Cx.Ok.nofr (ok:X.Ok) {o:Obj} (e:X.base.get? b = some o):b ∉ X.fs:=fun hb=>by
 have:=(ok.funs.mem hb).1;rw [e] at this;cases this
theorem Inv.bs (I:Inv X pins σ H s):∀ b o,X.base.get? b = some o->s.heap.get? b = some o/\H b = none:=fun b o e =>
 ⟨I.base.keep b o (I.ok.bs b o e).1 (I.ok.bs b o e).2 (I.ok.nofr e) (I.ok.noex b o e),I.base.free b o (I.ok.bs b o e).1 (I.ok.bs b o e).2 (I.ok.noex b o e)⟩
theorem Inv.bk (I:Inv X pins σ H s):∀ b o,X.base.get? b = some o->s.heap.get? b = some o:=fun b o e=>(I.bs b o e).1
theorem Inv.mod (I:Inv X pins σ H s):Mod X.K X.mg X.base:=I.ok.mod
theorem Inv.kIn (I:Inv X pins σ H s):X.K.In s.heap:=I.ok.mod.kin.keeps I.bk
theorem Inv.nolimit (I:Inv X pins σ H s):s.heap.NoLimit:=I.ok.mod.nolimit.keeps I.bk
theorem Inv.lt (I:Inv X pins σ H s):X.env.locals < s.heap.objs.size:=let ⟨_,hn,_⟩:=I.loc;hn.lt
theorem Inv.sz (I:Inv X pins σ H s):X.s₀.heap.objs.size <= s.heap.objs.size:=Nat.le_trans I.ok.above (Nat.le_of_lt I.lt)
theorem Inv.nofs (I:Inv X pins σ H s) (h:s.heap.objs.size <= a):a ∉ X.fs:=fun hb=>by
 obtain ⟨_,o,ho,_⟩:=I.ok.funs.mem hb;exact absurd (Nat.lt_of_lt_of_le (Heap.lt_size ho) (Nat.le_trans I.sz h)) (Nat.lt_irrefl _)
theorem Inv.cne (I:Inv X pins σ H s):∀ x c,X.env.cells.lookup x = some c->c ≠ X.env.locals:=fun x c e z=>by
 obtain ⟨v,o,ho,hd⟩:=I.cell x c e;obtain ⟨m,⟨o',es,ep,HY,A',_⟩,_⟩:=I.loc;rw [z,HY] at ho;cases ho;rw [A'] at hd;cases hd
theorem Inv.funs (I:Inv X pins σ H s):s.heap.FunFrames X.base X.outer:=by
 have all:∀ (l:List Env),(∀ b ∈ rT l,b ∈ X.fs)->X.s₀.heap.FunFrames X.base l->s.heap.FunFrames X.base l:=by
  intro l
  induction l with
  | nil=>intro _ _;trivial
  | cons env r ih =>
   intro hs hl;obtain ⟨hk,⟨L,o,hf,hn,ho,hd⟩,hr⟩:=hl;have hL:L ∈ X.fs:=hs L (by unfold rT;rw [List.filterMap_cons,hf];exact List.mem_cons_self);obtain ⟨sl,e⟩:=I.base.slot L o ho (I.ok.frf L hL) hL fun z=>I.ok.exfs L z hL
   exact ⟨hk,⟨L,_,hf,hn,e,hd⟩,ih (fun b hb=>hs b (by unfold rT;rw [List.filterMap_cons,hf];exact List.mem_cons_of_mem _ hb)) hr⟩
 exact all X.outer (fun _ hb=>hb) I.ok.funs
theorem Inv.stack (I:Inv X pins σ H s):s.heap.FunFrames X.base X.stack:=by
 rcases I.ok.stk with e | ⟨e,hf⟩
 ·rw [e];exact I.funs
 ·rw [e];obtain ⟨m,hn,_⟩:=I.loc;refine .cons (by rw [I.ok.kind];decide) hf hn ?_ I.funs;exact Heap.get?_none_of_le (Nat.le_trans I.ok.bsz I.ok.above)
theorem Inv.stkSub (I:Inv X pins σ H s):∀ b ∈ rT X.stack,b ∈ X.env.locals :: X.fs:=fun b hb=>by
 rcases I.ok.stk with e | ⟨e,hf⟩
 ·rw [e] at hb;exact List.mem_cons_of_mem _ hb
 ·rw [e] at hb;unfold rT at hb;rw [List.filterMap_cons,hf] at hb;exact hb
theorem Inv.stkFree (I:Inv X pins σ H s):∀ b ∈ rT X.stack,H b = none:=fun b hb=>by
 rcases List.mem_cons.mp (I.stkSub b hb) with e | hb
 ·rw [e];exact I.free
 ·obtain ⟨_,o,ho,_⟩:=I.ok.funs.mem hb;exact I.base.free b o ho (I.ok.frf b hb) fun z=>I.ok.exfs b z hb
theorem Inv.step {g' : Array GenState} {t' : Nat} {d' : Drawn} (I : Inv X pins σ H s)
    (uQ:∀ b ∈ ch,(b ∈ X.ex \/ X.s₀.heap.objs.size <= b)/\b ≠ X.env.locals/\(∀ x c,X.env.cells.lookup x = some c->c ≠ b)/\∀ p ∈ X.pn ++ pins,p.1 ≠ b)
    (keep:∀ b o,b ≠ X.env.locals->b ∉ X.fs->b ∉ ch->s.heap.get? b = some o->H b = none->h'.get? b = some o)
    (slot:∀ b o,b ≠ X.env.locals->b ∈ X.fs->b ∉ ch->s.heap.get? b = some o->H b = none->∃ sl,h'.get? b = some { o with slots:=sl }) (free:∀ b o,b ∉ ch->s.heap.get? b = some o->H b = none->H' b = none)
    (there:∀ b o,b ∉ ch->s.heap.get? b = some o->∃ o',h'.get? b = some o')
    (tups:∀ b xs,H b = some (.tup xs)->H' b = some (.tup xs)) (frzs:∀ b o u,H b = some (.frz o u)->H' b = some (.frz o u)) (tbls:∀ b ps,H b = some (.tbl ps)->∃ more,H' b = some (.tbl (ps ++ more)))
    (ns:∀ m,s.heap.Ns X.env.locals m->h'.Ns X.env.locals m) (hok:HOk X.prog X.w H' h') (hg:AllBare g') :
    Inv X pins σ H' { s with heap:=h',gens:=g',drawn:=d',toks:=t' }:=by
 have S7:∀ b o,X.s₀.heap.get? b = some o->b ≠ X.env.locals:=fun b o e=>Nat.ne_of_lt (Nat.lt_of_lt_of_le (Heap.lt_size e) I.ok.above)
 have Pz:∀ b o,X.s₀.heap.get? b = some o->b ∉ X.ex->b ∉ ch:=fun b o e hx hb=>by
  rcases (uQ b hb).1 with z | z
  ·exact hx z
  ·exact absurd (Nat.lt_of_lt_of_le (Heap.lt_size e) z) (Nat.lt_irrefl _)
 have cellK:∀ x c,X.env.cells.lookup x = some c->∀ v,s.heap.IsCell c v->h'.IsCell c v:=fun x c e v ⟨o,ho,hd⟩=>by
  have DR:c ∉ ch:=fun z=>(uQ c z).2.2.1 x c e rfl
  by_cases hc:c ∈ X.fs
  ·obtain ⟨sl,q⟩:=slot c o (I.cne x c e) hc DR ho (I.freeC x c e);exact ⟨_,q,hd⟩
  ·exact ⟨o,keep c o (I.cne x c e) hc DR ho (I.freeC x c e),hd⟩
 refine ⟨I.ok,I.os,hg,⟨fun b o e n hb hx=>?_,fun b o e n hb hx=>?_,fun b o e n hx=>?_,fun b o e hx=>?_,fun b xs e=>tups b xs (I.base.tups b xs e),fun b o xs e=>frzs b o xs (I.base.frzs b o xs e),fun b ps e=>?_⟩,?_,fun x c e=>?_,?_,fun x c e=>?_,fun p hp=>?_,hok,I.len⟩
 ·exact keep b o (S7 b o e) hb (Pz b o e hx) (I.base.keep b o e n hb hx) (I.base.free b o e n hx)
 ·obtain ⟨sl,e1⟩:=I.base.slot b o e n hb hx;obtain ⟨Ql,e2⟩:=slot b _ (S7 b o e) hb (Pz b o e hx) e1 (I.base.free b o e n hx);exact ⟨Ql,e2⟩
 ·obtain ⟨o',e1⟩:=I.base.there b o e hx;exact free b o' (Pz b o e hx) e1 (I.base.free b o e n hx)
 ·obtain ⟨o',e1⟩:=I.base.there b o e hx;exact there b o' (Pz b o e hx) e1
 ·obtain ⟨m1,e1⟩:=I.base.tbls b ps e;obtain ⟨m2,e2⟩:=tbls b _ e1;exact ⟨m1 ++ m2,by rw [e2,Array.append_assoc]⟩
 ·obtain ⟨m,hn,hl⟩:=I.loc;refine ⟨m,ns m hn,fun i x v e1 e2 e3=>?_⟩
  obtain ⟨u,r,l⟩:=hl i x v e1 e2 e3;refine ⟨u,r,?_⟩
  rcases l with l | ⟨k,c,e,z⟩
  ·exact .inl l
  ·exact .inr ⟨k,c,e,cellK x c e _ z⟩
 ·obtain ⟨v,z⟩:=I.cell x c e;exact ⟨v,cellK x c e v z⟩
 ·obtain ⟨m,⟨o,_,_,ho,_⟩,_⟩:=I.loc;exact free _ o (fun z=>(uQ _ z).2.1 rfl) ho I.free
 ·obtain ⟨v,o,ho,hd⟩:=I.cell x c e;exact free c o (fun z=>(uQ c z).2.2.1 x c e rfl) ho (I.freeC x c e)
 ·obtain ⟨e,n,ne,nf,d⟩:=I.pin p hp;have DR:p.1 ∉ ch:=fun z=>(uQ p.1 z).2.2.2 p hp rfl
  exact ⟨keep p.1 p.2 ne nf DR e n,free p.1 p.2 DR e n,ne,nf,d⟩
theorem Inv.un (I:Inv X pins σ H s) (u:Un X.fs [] H H' s.heap h') (hok:HOk X.prog X.w H' h'):Inv X pins σ H' { s with heap:=h',toks:=t' }:=by
 obtain ⟨m,⟨o,es,ep,ho,r⟩,_⟩:=id I.loc;obtain ⟨sl,hL⟩:=u.any ho I.free (by simp);exact I.step (g':=s.gens) (d':=s.drawn) (ch:=[]) (fun _ z=>nomatch z) (fun b o _ hb _ e n=>u.keep b o e n hb (by simp)) (fun b o _ hb _ e n=>u.slot b o e n hb (by simp)) (fun b o _ e n=>u.free b o e n (by simp)) (fun b o _ e=>u.there b o e (by simp)) u.tups u.frzs u.tbls (fun m' hm=>by
  obtain ⟨o',dA,Mi,HY,r'⟩:=hm;rw [ho] at HY;cases HY;exact ⟨_,dA,Mi,hL,r'⟩) hok I.bare
theorem Inv.call {g' : Array GenState} {d' : Drawn} (I : Inv X pins σ H s) (u : Un (rT X.stack) ch H H' s.heap h') (hok : HOk X.prog X.w H' h') (hg : AllBare g')
    (uQ:∀ b ∈ ch,(b ∈ X.ex \/ X.s₀.heap.objs.size <= b)/\b ≠ X.env.locals/\(∀ x c,X.env.cells.lookup x = some c->c ≠ b)/\∀ p ∈ X.pn ++ pins,p.1 ≠ b) :
    Inv X pins σ H' { s with heap:=h',gens:=g',drawn:=d',toks:=t' }:=by
 obtain ⟨m,⟨o,es,ep,ho,r⟩,_⟩:=id I.loc;obtain ⟨sl,hL⟩:=u.any ho I.free fun z=>(uQ _ z).2.1 rfl
 exact I.step (ch:=ch) uQ (fun b o hL hb hc e n=>u.keep b o e n (fun z=>(List.mem_cons.mp (I.stkSub b z)).elim hL hb) hc) (fun b o _ _ hc e n=>u.any e n hc) (fun b o hc e n=>u.free b o e n hc) (fun b o hc e=>u.there b o e hc) u.tups u.frzs u.tbls (fun m' hm=>by
  obtain ⟨o',dA,Mi,HY,r'⟩:=hm;rw [ho] at HY;cases HY;exact ⟨_,dA,Mi,hL,r'⟩) hok hg
theorem Inv.turned {it : Addr} (I : Inv X pins σ H s) (k : ∀ b o, b ≠ it -> s.heap.get? b = some o -> h'.get? b = some o) (hn : H it = none) (hL : it ≠ X.env.locals)
    (h1:it ∈ X.ex \/ X.s₀.heap.objs.size <= it) (h2:∀ x c,X.env.cells.lookup x = some c->c ≠ it) (h3:∀ p ∈ X.pn ++ pins,p.1 ≠ it):Inv X pins σ H { s with heap:=h',toks:=t' }:=by
 have S5:∀ b u,H b = some u->b ≠ it:=fun b u e z=>by rw [z,hn] at e;cases e
 refine I.step (g':=s.gens) (d':=s.drawn) (ch:=[it]) (fun b hb=>?_) (fun b o _ _ hc e _=>k b o (fun z=>hc (by simp [z])) e) (fun b o _ _ hc e _=>⟨o.slots,k b o (fun z=>hc (by simp [z])) e⟩) (fun _ _ _ _ n=>n)
  (fun b o hc e=>⟨o,k b o (fun z=>hc (by simp [z])) e⟩) (fun _ _ e=>e) (fun _ _ _ e=>e) (fun b ps e=>⟨#[],by rw [e];simp⟩) (fun m hm=>?_) (fun b u e=>?_) I.bare
 ·have e:b = it:=by simpa using hb
  subst e;exact ⟨h1,hL,h2,h3⟩
 ·obtain ⟨o,es,ep,ho,r⟩:=hm;exact ⟨o,es,ep,k _ o (Ne.symm hL) ho,r⟩
 ·refine (I.hok b u e).stay (fun c v hc q=>k c v ?_ q) (fun _ q=>q) fun _ _ q=>q
  rcases hc with z | z
  ·rw [z];exact S5 b u e
  ·exact S5 c _ z
theorem Inv.tok (I:Inv X pins σ H s) (t:Nat):Inv X pins σ H { s with toks:=t }:=I.un (h':=s.heap) (t':=t) Un.refl I.hok
theorem Inv.kept (I:Inv X pins σ H s) (k:∀ b u,s.heap.get? b = some u->h'.get? b = some u):Inv X pins σ H { s with heap:=h',toks:=t' }:=I.un (Un.kept k) (I.hok.kept k)
theorem Inv.laid (I : Inv X pins σ H s) (k : ∀ b u, s.heap.get? b = some u -> h'.get? b = some u) (hp : s.heap.objs.size <= a) (new : ObjOk X.prog X.w (upd H a o) h' a o) :
    Inv X pins σ (upd H a o) { s with heap:=h',toks:=t' }:=I.un (Un.laid k hp (I.hok.fresh hp)) (I.hok.laid k hp new)
theorem Inv.write {x e : Addr} (I : Inv X pins σ H s) (mu : O8 (H x)) (he : e = x \/ H e = some (.own x)) (k : ∀ b u, b ≠ e -> s.heap.get? b = some u -> h'.get? b = some u) (MX : ∃ u, h'.get? e = some u)
    (new:ObjOk X.prog X.w (upd H x o) h' x o):Inv X pins σ (upd H x o) { s with heap:=h',toks:=t' }:=I.un (Un.write mu he k MX) (I.hok.write mu he k MX new)
theorem Inv.pins_of {Je:List (Addr × Obj)} (I:Inv X pins σ H s) (h:∀ p ∈ Je,s.heap.get? p.1 = some p.2/\H p.1 = none/\p.1 ≠ X.env.locals/\p.1 ∉ X.fs/\∀ v,p.2.data ≠ .cell v):Inv X Je σ H s :=
 ⟨I.ok,I.os,I.bare,I.base,I.loc,I.cell,I.free,I.freeC,fun p hp=>(List.mem_append.mp hp).elim (fun z=>I.pin p (List.mem_append_left _ z)) (h p),I.hok,I.len⟩
theorem vM {N:List Str} (hN:N.Nodup) (a:N[i]? = some x) (b:N[j]? = some x):i = j:=by
 obtain ⟨h1,e1⟩:=List.getElem?_eq_some_iff.mp a;obtain ⟨h2,e2⟩:=List.getElem?_eq_some_iff.mp b;exact (List.getElem_inj hN).mp (e1.trans e2.symm)
theorem qX {E : Value -> Shared -> Prop} {Q : Unit -> Shared -> Prop} (I : Inv X pins σ H s) (hN : X.N.Nodup) (hi : X.N[i]? = some x) (hx : Loc X.env.scope x) (r : RelV v u)
    (h:∀ s',Inv X pins (σ.set i (some v)) H s'->(∃ a,Heap.SameBut a s.heap s'.heap/\(a = X.env.locals \/ X.env.cells.lookup x = some a))->Q () s') (hf:X.fn x = true \/ X.env.scope.names.lookup x = some .local:=by first | exact .inl rfl | exact .inr rfl | assumption):wpAny M A (storeName X.env x u) Q E s:=by
 obtain ⟨m,hn,hl⟩:=id I.loc;have RE:(X.env.scope.kind == .class || (X.env.scope.kind == .module && X.env.locals != X.env.globals)) = false:=by rw [I.ok.kind];rfl
 have Ow:i < σ.length:=by rw [I.len];exact (List.getElem?_eq_some_iff.mp hi).1
 have cne:=I.cne;have tracked:∀ {a:Addr} {h':Heap},(∃ o,s.heap.get? a = some o/\H a = none)->Heap.SameBut a s.heap h'->HOk X.prog X.w H h':=fun {a h'} ha hs b ob e=>by
  obtain ⟨_,_,mr⟩:=ha;refine (I.hok b ob e).stay (fun c w' hc q=>(hs.2 c ?_).trans q) (fun _ q=>q) fun _ _ q=>q
  rintro rfl
  rcases hc with rfl | hc
  ·rw [mr] at e;cases e
  ·rw [mr] at hc;cases hc
 rcases hx with hk | hk
 ·refine wpAny_storeName_local hk hn (fun h' oJ hs=>?_) RE;obtain ⟨oL,_,_,Wv,_⟩:=id hn;refine h _ ⟨I.ok,I.os,I.bare,⟨fun b o e n hb hx=>?_,fun b o e n hb hx=>?_,I.base.free,fun b o e hx=>?_,I.base.tups,I.base.frzs,I.base.tbls⟩,⟨_,oJ,fun j y v' e1 e2 e3=>?_⟩,fun y c e=>?_,I.free,I.freeC,fun p hp=>?_,tracked ⟨oL,Wv,I.free⟩ hs,by simpa using I.len⟩ ⟨_,hs,.inl rfl⟩
  ·exact (hs.2 b (Nat.ne_of_lt (Nat.lt_of_lt_of_le (Heap.lt_size e) I.ok.above))).trans (I.base.keep b o e n hb hx)
  ·obtain ⟨sl,e1⟩:=I.base.slot b o e n hb hx;exact ⟨sl,(hs.2 b (Nat.ne_of_lt (Nat.lt_of_lt_of_le (Heap.lt_size e) I.ok.above))).trans e1⟩
  ·obtain ⟨o',e1⟩:=I.base.there b o e hx;exact ⟨o',(hs.2 b (Nat.ne_of_lt (Nat.lt_of_lt_of_le (Heap.lt_size e) I.ok.above))).trans e1⟩
  ·by_cases hj:j = i
   ·subst hj;rw [hi] at e1;cases e1;rw [List.getElem?_set_self Ow] at e2
    cases e2
    exact ⟨u,r,.inl ⟨hk,by simp⟩⟩
   ·rw [List.getElem?_set_ne (Ne.symm hj)] at e2;obtain ⟨u',r',q⟩:=hl j y v' e1 e2 e3;refine ⟨u',r',?_⟩
    rcases q with ⟨k,e⟩ | ⟨k,c,e,z⟩
    ·refine .inl ⟨k,?_⟩;have:y ≠ x:=fun e=>hj (vM hN e1 (e ▸ hi))
     simp [this,e]
    ·exact .inr ⟨k,c,e,z.sameBut hs (cne y c e)⟩
  ·obtain ⟨w',z⟩:=I.cell y c e;exact ⟨w',z.sameBut hs (cne y c e)⟩
  ·obtain ⟨e,n,ne,nf,d⟩:=I.pin p hp;exact ⟨(hs.2 p.1 ne).trans e,n,ne,nf,d⟩
 ·have Ma:X.fn x = true:=by
   rcases hf with z | z
   ·exact z
   ·rw [z] at hk;cases hk
  obtain ⟨c,hc⟩:=I.ok.has x (.inl hk);obtain ⟨w',z⟩:=I.cell x c hc;refine wpAny_storeName_cell I.ok.kind hk hc z (fun h' zw hs=>?_)
  obtain ⟨oc,Jx,Rk⟩:=id z;refine h { s with heap:=h' } ⟨I.ok,I.os,I.bare,⟨fun b o e n hb hx=>?_,fun b o e n hb hx=>?_,I.base.free,fun b o e hx=>?_,I.base.tups,I.base.frzs,I.base.tbls⟩,⟨m,hn.sameBut hs (Ne.symm (cne x c hc)),fun j y v' e1 e2 e3=>?_⟩,fun y c' e=>?_,I.free,I.freeC,fun p hp=>?_,tracked ⟨oc,Jx,I.freeC x c hc⟩ hs,by simpa using I.len⟩ ⟨c,hs,.inr hc⟩
  ·exact (hs.2 b (Nat.ne_of_lt (Nat.lt_of_lt_of_le (Heap.lt_size e) (I.ok.cab x c Ma hc)))).trans (I.base.keep b o e n hb hx)
  ·obtain ⟨sl,e1⟩:=I.base.slot b o e n hb hx;exact ⟨sl,(hs.2 b (Nat.ne_of_lt (Nat.lt_of_lt_of_le (Heap.lt_size e) (I.ok.cab x c Ma hc)))).trans e1⟩
  ·obtain ⟨o',e1⟩:=I.base.there b o e hx;exact ⟨o',(hs.2 b (Nat.ne_of_lt (Nat.lt_of_lt_of_le (Heap.lt_size e) (I.ok.cab x c Ma hc)))).trans e1⟩
  ·by_cases hj:j = i
   ·subst hj;rw [hi] at e1;cases e1;rw [List.getElem?_set_self Ow] at e2
    cases e2
    exact ⟨u,r,.inr ⟨.inl hk,c,hc,zw⟩⟩
   ·rw [List.getElem?_set_ne (Ne.symm hj)] at e2;obtain ⟨u',r',q⟩:=hl j y v' e1 e2 e3;refine ⟨u',r',?_⟩
    rcases q with q | ⟨k,c',e,z'⟩
    ·exact .inl q
    ·refine .inr ⟨k,c',e,z'.sameBut hs ?_⟩;rintro rfl;exact hj (vM hN e1 (I.ok.inj _ _ _ e hc ▸ hi))
  ·by_cases oK:c' = c
   ·subst oK;exact ⟨_,zw⟩
   ·obtain ⟨w2,z2⟩:=I.cell y c' e;exact ⟨w2,z2.sameBut hs oK⟩
  ·obtain ⟨e,n,ne,nf,d⟩:=I.pin p hp;refine ⟨(hs.2 p.1 ?_).trans e,n,ne,nf,d⟩;intro q;rw [q,Jx] at e;have q':oc = p.2:=Option.some.inj e;exact d w' (by rw [<- q'];exact Rk)
theorem iC {E : Value -> Shared -> Prop} {Q : Unit -> Shared -> Prop} (I : Inv X pins σ H s) (hN : X.N.Nodup) (hi : X.N[i]? = some x) (hx : Loc X.env.scope x) (r : RelV v u)
    (h:∀ s',Inv X pins (σ.set i (some v)) H s'->Q () s') (hf:X.fn x = true \/ X.env.scope.names.lookup x = some .local:=by first | exact .inl rfl | exact .inr rfl | assumption):wpAny M A (storeName X.env x u) Q E s :=
 qX I hN hi hx r (fun s' I' _=>h s' I') hf
theorem Inv.call' (I : Inv X pins σ H s) (ho : s'.os = s.os) (u : Un (rT X.stack) ch H H' s.heap s'.heap) (hok : HOk X.prog X.w H' s'.heap) (hg : AllBare s'.gens)
    (uQ:∀ b ∈ ch,(b ∈ X.ex \/ X.s₀.heap.objs.size <= b)/\b ≠ X.env.locals/\(∀ x c,X.env.cells.lookup x = some c->c ≠ b)/\∀ p ∈ X.pn ++ pins,p.1 ≠ b):Inv X pins σ H' s':=by
 obtain ⟨h',g',d',t',o'⟩:=s';have e:o' = s.os:=ho;subst e;exact I.call (g':=g') (t':=t') (d':=d') u hok hg uQ
end
abbrev XK:=Value->Option Addr->Hp->Prop
variable {E:XK}
abbrev St:=List (Option V)
variable {σ:St}
abbrev VK:=V->Hp->Prop
variable {Q:VK}
abbrev TE:=St->Hp->VK->Prop
variable {ta te:TE}
abbrev TT:=St->Hp->(Bool->Hp->Prop)->Prop
abbrev TA:=St->Hp->(List V->Hp->Prop)->Prop
variable {t:TA}
structure Ends where
 nx:St->Hp->Prop
 rt:VK
 bk:St->Hp->Prop:=fun _ _=>False
 ct:St->Hp->Prop:=fun _ _=>False
variable {D:Ends}
abbrev TS:=Ends->St->Hp->Prop
variable {tb:TS}
def EP (X:Cx) (pins:List (Addr × Obj)) (σ:St) (Q:VK) (u:Value) (s':Shared):Prop:=∃ v H',Inv X pins σ H' s'/\RelV v u/\Q v H'
def TP (X:Cx) (pins:List (Addr × Obj)) (σ:St) (Q:Bool->Hp->Prop) (b:Bool) (s':Shared):Prop:=∃ H',Inv X pins σ H' s'/\Q b H'
def AP (X:Cx) (pins:List (Addr × Obj)) (σ:St) (Q:List V->Hp->Prop) (us:List Value) (s':Shared):Prop:=∃ vs H',Inv X pins σ H' s'/\Vals vs us/\Q vs H'
def SP (X:Cx) (pins:List (Addr × Obj)) (D:Ends) (f:Flow) (s':Shared):Prop :=
 match f with
 | .next=>∃ σ' H',Inv X pins σ' H' s'/\D.nx σ' H'
 | .brk=>∃ σ' H',Inv X pins σ' H' s'/\D.bk σ' H'
 | .cont=>∃ σ' H',Inv X pins σ' H' s'/\D.ct σ' H'
 | .ret u=>∃ v σ' H',Inv X pins σ' H' s'/\RelV v u/\D.rt v H'
def PE (X:Cx) (e:Expr) (t:TE):Prop :=
 ∀ (pins:List (Addr × Obj)) (s:Shared) (σ:St) (H:Hp) (Q:VK),Inv X pins σ H s->t σ H Q->wpAny (model X.prog X.w) X.A (eval e X.env) (EP X pins σ Q) X.xe s
def PT (X:Cx) (e:Expr) (t:TT):Prop :=
 ∀ (pins:List (Addr × Obj)) (s:Shared) (σ:St) (H:Hp) (Q:Bool->Hp->Prop),Inv X pins σ H s->t σ H Q->wpAny (model X.prog X.w) X.A (isTrue e X.env (eval e X.env)) (TP X pins σ Q) X.xe s
def PW (X:Cx) (e:Expr) (t:TT):Prop :=
 ∀ (whole:Sem Value) (pins:List (Addr × Obj)) (s:Shared) (σ:St) (H:Hp) (Q:Bool->Hp->Prop),Inv X pins σ H s->t σ H Q->wpAny (model X.prog X.w) X.A (isTrue e X.env whole) (TP X pins σ Q) X.xe s
theorem PW.pt {t:TT} (h:PW X e t):PT X e t:=h _
def PA (X:Cx) (es:List Expr) (t:TA):Prop :=
 ∀ (pos:Pos) (pins:List (Addr × Obj)) (s:Shared) (σ:St) (H:Hp) (Q:List V->Hp->Prop),Inv X pins σ H s->t σ H Q->wpAny (model X.prog X.w) X.A (spliced (backTo pos (starEach es X.env))) (AP X pins σ Q) X.xe s
def PS (X:Cx) (st:Stmt) (t:TS):Prop :=
 ∀ (pins:List (Addr × Obj)) (s:Shared) (σ:St) (H:Hp) (D:Ends),Inv X pins σ H s->t D σ H->wpAny (model X.prog X.w) X.A (exec st X.env) (SP X pins D) X.xe s
def PSs (X:Cx) (st:List Stmt) (t:TS):Prop :=
 ∀ (pins:List (Addr × Obj)) (s:Shared) (σ:St) (H:Hp) (D:Ends),Inv X pins σ H s->t D σ H->wpAny (model X.prog X.w) X.A (execs st X.env) (SP X pins D) X.xe s
theorem bw {α:Type} {t:Sem α} {Q Q':α->Shared->Prop} {E:Value->Shared->Prop} (h:wpAny M A t Q E s) (hQ:∀ a s,Q a s->Q' a s):wpAny M A t Q' E s:=wpAny_mono h hQ fun _ _ x=>x
section
def cn (i:Nat):TE:=fun σ H Q=>∃ v,σ[i]? = some (some v)/\Q v H
def tC (v:V):TE:=fun _ H Q=>Q v H
theorem K4 (hN:X.N[i]? = some x) (hv:P4 X.env.scope x) (hd:(x == ("__debug__":Str)) = false:=by decide) (jF:(x == ("__classdict__":Str)) = false:=by decide):PE X (.Name x pos) (cn i):=by
 intro pins s σ H Q I h;obtain ⟨v,e,h⟩:=h;obtain ⟨m,hn,hl⟩:=I.loc;obtain ⟨u,r,l⟩:=hl i x v hN e hv;have fin:EP X pins σ Q u s:=⟨v,H,I,r,h⟩
 rcases l with ⟨hk,hm⟩ | ⟨hk,c,hc,mw⟩
 ·exact wpAny_Name (wpAny_loadName_local I.ok.kind hk hn hm fin) hd
 ·rcases hk with hk | hk
  ·exact wpAny_Name (wpAny_loadName_cell I.ok.kind hk hc mw fin) hd
  ·exact wpAny_Name (wpAny_loadName_free I.ok.kind hk hc mw fin jF) hd
theorem La {i j pos}:PE X (.Constant (.int i) j pos) (tC (.int i)):=fun _ _ _ H _ I h=>wpAny_Constant_int ⟨.int i,H,I.tok _,⟨_,rfl⟩,h⟩
theorem NL {b j pos}:PE X (.Constant (.bool b) j pos) (tC (.bl b)):=fun _ _ _ H _ I h=>Constant_bool ⟨.bl b,H,I,rfl,h⟩
theorem K8 {j pos}:PE X (.Constant .none j pos) (tC .non):=fun _ _ _ H _ I h=>Constant_none ⟨.non,H,I,rfl,h⟩
theorem K5 {x j pos}:PE X (.Constant (.str x) j pos) (tC (.str x)):=fun _ _ _ H _ I h=>Calls.Constant_str ⟨.str x,H,I.tok _,⟨_,rfl⟩,h⟩
def Gl (X:Cx) (x:Str):Prop:=X.env.kindOf x = some .globalImplicit
theorem kG {E : Value -> Shared -> Prop} {Q : Value -> Shared -> Prop} (I : Inv X pins σ H s) (hg : Gl X x) (hm : X.mg x = some u) (h : Q u s)
    (hd:(x == ("__debug__":Str)) = false:=by decide):wpAny (model X.prog X.w) X.A (eval (.Name x pos) X.env) Q E s :=
 Calls.Name_function_global I.ok.kind hg (Calls.loadGlobal_global (by rw [I.ok.glob];exact I.mod.glob.keeps I.bk) hm h) hd
theorem lH {E : Value -> Shared -> Prop} {Q : Value -> Shared -> Prop} (I : Inv X pins σ H s) (hg : Gl X x) (hm : X.mg x = none) (hv : bootBuiltins x = some u) (h : Q u s)
    (hn:x ≠ "__name__":=by decide) (hd:(x == ("__debug__":Str)) = false:=by decide):wpAny (model X.prog X.w) X.A (eval (.Name x pos) X.env) Q E s:=by
 obtain ⟨mb,h1,h2⟩:=I.mod.blt;exact Calls.Name_function_global I.ok.kind hg (Calls.loadGlobal_builtin (by rw [I.ok.glob];exact I.mod.glob.keeps I.bk) hm (by rw [I.ok.blt];exact h1.keeps I.bk) ((h2 x hn).trans hv) h) hd
theorem GP (hg:Gl X x) (hm:X.mg x = some u) (r:RelV v u) (hd:(x == ("__debug__":Str)) = false:=by decide):PE X (.Name x pos) (tC v) :=
 fun _ _ _ H _ I h=>kG I hg hm ⟨v,H,I,r,h⟩ hd
theorem GR (hg:Gl X x) (hm:X.mg x = none) (hv:bootBuiltins x = some u) (r:RelV v u) (hn:x ≠ "__name__":=by decide) (hd:(x == ("__debug__":Str)) = false:=by decide):PE X (.Name x pos) (tC v) :=
 fun _ _ _ H _ I h=>lH I hg hm hv ⟨v,H,I,r,h⟩ hn hd
variable {a b:Expr} {tb:TE}
def tB (t:TE):TT:=fun σ H Q=>t σ H fun x H1=>∃ c,x = .bl c/\Q c H1
theorem KR {t:TE} (h:PE X e t) (he:∀ whole,isTrue e X.env whole = (do let v <- whole;standAt e.pos;holding [v] (truthy v)):=by intro _;rfl):PT X e (tB t):=by
 intro pins s σ H Q I hw;refine isTrue_plain (bw (h pins s σ H _ I hw) fun v s1 ⟨x,H1,I1,r1,q1⟩=>?_) (he _)
 obtain ⟨d,rfl,q⟩:=q1
 cases r1
 exact wpAny_truthy_bool ⟨H1,I1,q⟩
variable {tA Ft:TT} {rest:List Expr}
def JX (t u:TT):TT:=fun σ H Q=>t σ H fun c H1=>if c = true then u σ H1 Q else Q false H1
def Qh (t u:TT):TT:=fun σ H Q=>t σ H fun c H1=>if c = true then Q true H1 else u σ H1 Q
def JP (t:TT):TT:=fun σ H Q=>t σ H fun c H1=>Q (!c) H1
theorem Gg (ha:PT X a tA):PW X (.BoolOp .And [a] pos) tA:=by
 intro wh pins s σ H Q I h;refine isTrue_and (bw (ha pins s σ H Q I h) fun c s1 e=>?_)
 cases c with
 | true=>exact isTrue_and_nil e
 | false=>exact e
theorem KO (ha:PT X a tA):PW X (.BoolOp .Or [a] pos) tA:=by
 intro wh pins s σ H Q I h;refine isTrue_or (bw (ha pins s σ H Q I h) fun c s1 e=>?_)
 cases c with
 | false=>exact isTrue_or_nil e
 | true=>exact e
theorem KP (ha:PT X a tA) (hb:PW X (.BoolOp .And (b :: rest) pos) Ft):PW X (.BoolOp .And (a :: b :: rest) pos) (JX tA Ft):=by
 intro wh pins s σ H Q I h;refine isTrue_and (bw (ha pins s σ H _ I h) fun c s1 ⟨H1,I1,q1⟩=>?_)
 cases c with
 | true=>exact hb wh pins s1 σ H1 Q I1 q1
 | false=>exact ⟨H1,I1,q1⟩
theorem NA (ha:PT X a tA) (hb:PW X (.BoolOp .Or (b :: rest) pos) Ft):PW X (.BoolOp .Or (a :: b :: rest) pos) (Qh tA Ft):=by
 intro wh pins s σ H Q I h;refine isTrue_or (bw (ha pins s σ H _ I h) fun c s1 ⟨H1,I1,q1⟩=>?_)
 cases c with
 | true=>exact ⟨H1,I1,q1⟩
 | false=>exact hb wh pins s1 σ H1 Q I1 q1
theorem KS (ha:PT X a tA):PT X (.UnaryOp .Not a pos) (JP tA):=by
 intro pins s σ H Q I h;exact isTrue_not (ha pins s σ H (fun c H1=>Q (!c) H1) I h)
def B' (ta tb:TE):TE:=fun σ H Q=>ta σ H fun x H1=>∃ c,x = .bl c/\if c = true then tb σ H1 Q else Q (.bl false) H1
def BZ (ta:TE):TE:=fun σ H Q=>ta σ H fun x H1=>∃ c,x = .bl c/\Q (.bl (!c)) H1
theorem K6 {op} {t:TE} (h:PE X a t):PE X (.BoolOp op [a] pos) t:=fun pins s σ H Q I hw=>BoolOp_one (h pins s σ H Q I hw)
theorem Ld (ha:PE X a ta) (hb:PE X (.BoolOp .And (b :: rest) pos) tb):PE X (.BoolOp .And (a :: b :: rest) pos) (B' ta tb):=by
 intro pins s σ H Q I h;refine BoolOp_and (bw (ha pins s σ H _ I h) fun v s1 ⟨x,H1,I1,r1,q1⟩=>?_)
 obtain ⟨c,rfl,q1⟩:=q1
 cases r1
 refine wpAny_truthy_bool ?_
 cases c with
 | true=>exact hb pins s1 σ H1 Q I1 q1
 | false=>exact ⟨.bl false,H1,I1,rfl,q1⟩
theorem K7 (ha:PE X a ta):PE X (.UnaryOp .Not a pos) (BZ ta):=by
 intro pins s σ H Q I h;refine UnaryOp_ (bw (ha pins s σ H _ I h) fun v s1 ⟨x,H1,I1,r1,q1⟩=>?_)
 obtain ⟨c,rfl,q1⟩:=q1
 cases r1
 exact not_of (wpAny_truthy_bool ⟨.bl (!c),H1,I1,rfl,q1⟩)
end
def SqL (K:W.Frag) (H:Hp) (a:Addr) (xs:List V):Prop :=
 Rd H a (.lst xs) \/
  ∃ (o:Obj) (its:Array Value) (n:Nat),K.lookup a = some o/\o.cls = .type "list"/\o.dict = none/\o.data = .seq its n/\its.size <= sizeLine/\Vals xs its.toList
def SqT (K:W.Frag) (H:Hp) (a:Addr) (xs:List V):Prop :=
 Rd H a (.tup xs) \/
  ∃ (o:Obj) (its:Array Value) (n:Nat),K.lookup a = some o/\o.cls = .type "tuple"/\o.data = .seq its n/\its.size <= sizeLine/\Vals xs its.toList
def Sq:Value->Option V
 | .none=>some .non
 | .bool b=>some (.bl b)
 | .int i _=>some (.int i)
 | .str x _=>some (.str x)
 | .bytes b _=>some (.byt b)
 | .float b _=>some (.flt b)
 | .ref a=>some (.ref a)
 | .type n=>some (.ty n)
 | _=>none
theorem RelV.abs {x:V} (r:RelV x u):Sq u = some x:=by
 cases x with
 | non=>cases r;rfl
 | bl _=>cases r;rfl
 | int _=>obtain ⟨t,rfl⟩:=r;rfl
 | str _=>obtain ⟨t,rfl⟩:=r;rfl
 | byt _=>obtain ⟨t,rfl⟩:=r;rfl
 | flt _=>obtain ⟨t,rfl⟩:=r;rfl
 | ref _=>cases r;rfl
 | ty _=>cases r;rfl
theorem RelV.inj {x:V} (r:RelV x u) (q:RelV y u):x = y:=Option.some.inj (r.abs.symm.trans q.abs)
theorem Vals.inj:∀ {xs ys:List V} {us:List Value},Vals xs us->Vals ys us->xs = ys
 | _,_,_,.nil,.nil=>rfl
 | _,_,_,.cons r t,.cons r' t'=>by rw [r.inj r',Vals.inj t t']
section
variable {ys:List V}
theorem SqL.of (h:H a = some (.lst xs)):SqL K H a xs:=.inl (.inl h)
theorem SqT.of (h:H a = some (.tup xs)):SqT K H a xs:=.inl (.inl h)
theorem Inv.list (I:Inv X pins σ H s) (h:SqL X.K H a xs):∃ its:List Value,Vals xs its/\PlainL s.heap a its.toArray/\xs.length <= sizeLine:=by
 rcases h with h | ⟨o,its,n,hk,hc,hd,hs,hz,r⟩
 ·obtain ⟨z,its,n,r,e⟩:=h.ok I.hok;exact ⟨its,r,⟨_,n,e,rfl,rfl,rfl⟩,z⟩
 ·refine ⟨its.toList,r,⟨o,n,I.kIn a o hk,hc,hd,by simpa using hs⟩,?_⟩;have e:=r.length;simp only [Array.length_toList] at e;omega
theorem Inv.tuple (I:Inv X pins σ H s) (h:SqT X.K H a xs):∃ its:List Value,Vals xs its/\IsTup s.heap a its.toArray/\xs.length <= sizeLine:=by
 rcases h with h | ⟨o,its,n,hk,hc,hs,hz,r⟩
 ·obtain ⟨z,its,r,p⟩:=h.ok I.hok;exact ⟨its,r,p,z⟩
 ·refine ⟨its.toList,r,⟨o,I.kIn a o hk,hc,n,by simpa using hs⟩,?_⟩;have e:=r.length;simp only [Array.length_toList] at e;omega
theorem Inv.list_inj (I:Inv X pins σ H s) (h:SqL X.K H a xs) (h':SqL X.K H a ys):xs = ys:=by
 obtain ⟨its,r,⟨o,n,e,_,_,d⟩,_⟩:=I.list h;obtain ⟨its',r',⟨o',n',e',_,_,d'⟩,_⟩:=I.list h';rw [e] at e';cases e';rw [d] at d'
 injection d' with d1 _
 have:its = its':=by simpa using congrArg Array.toList d1
 subst this;exact r.inj r'
theorem Inv.tuple_inj (I:Inv X pins σ H s) (h:SqT X.K H a xs) (h':SqT X.K H a ys):xs = ys:=by
 obtain ⟨its,r,⟨o,e,_,n,d⟩,_⟩:=I.tuple h;obtain ⟨its',r',⟨o',e',_,n',d'⟩,_⟩:=I.tuple h';rw [e] at e';cases e';rw [d] at d'
 injection d' with d1 _
 have:its = its':=by simpa using congrArg Array.toList d1
 subst this;exact r.inj r'
end
abbrev Cx.wish (X:Cx) (E:Value->Shared->Prop):Cx:={ X with xe:=E }
abbrev Cx.nox (X:Cx):Cx:=X.wish fun _ _=>False
theorem Cx.Ok.wish (ok:X.Ok) (E:Value->Shared->Prop):(X.wish E).Ok :=
 ⟨ok.mod,ok.kind,ok.glob,ok.blt,ok.above,ok.inj,ok.has,ok.cab,ok.hd,ok.frames,ok.stk,ok.exf,ok.bs,ok.bsz,ok.noex,ok.exfs,ok.funs,ok.frf⟩
theorem Cx.Ok.unwish {E:Value->Shared->Prop} (ok:(X.wish E).Ok):X.Ok :=
 ⟨ok.mod,ok.kind,ok.glob,ok.blt,ok.above,ok.inj,ok.has,ok.cab,ok.hd,ok.frames,ok.stk,ok.exf,ok.bs,ok.bsz,ok.noex,ok.exfs,ok.funs,ok.frf⟩
section
variable {E:Value->Shared->Prop}
theorem Inv.wish (I:Inv X pins σ H s) (E:Value->Shared->Prop):Inv (X.wish E) pins σ H s:=⟨I.ok.wish E,I.os,I.bare,I.base,I.loc,I.cell,I.free,I.freeC,I.pin,I.hok,I.len⟩
theorem Inv.unwish (I:Inv (X.wish E) pins σ H s):Inv X pins σ H s:=⟨I.ok.unwish,I.os,I.bare,I.base,I.loc,I.cell,I.free,I.freeC,I.pin,I.hok,I.len⟩
theorem SP.unwish {f:Flow} (h:SP (X.wish E) pins D f s'):SP X pins D f s':=by
 cases f with
 | next=>obtain ⟨σ',H',I,q⟩:=h;exact ⟨σ',H',I.unwish,q⟩
 | brk=>obtain ⟨σ',H',I,q⟩:=h;exact ⟨σ',H',I.unwish,q⟩
 | cont=>obtain ⟨σ',H',I,q⟩:=h;exact ⟨σ',H',I.unwish,q⟩
 | ret u=>obtain ⟨v,σ',H',I,r,q⟩:=h;exact ⟨v,σ',H',I.unwish,r,q⟩
theorem PSs.nox {st:List Stmt} {t:TS} (h:PSs X.nox st t):PSs X st t:=fun pins s σ H D I hw =>
 wpAny_mono (h pins s σ H D (I.wish _) hw) (fun _ _ q=>q.unwish) fun _ _ z=>False.elim z
end
section
variable {st:Stmt} {rest:List Stmt} {t u:TS}
def B0:TS:=fun D σ H=>D.nx σ H
def BX (t u:TS):TS:=fun D σ H=>t { D with nx:=u D } σ H
theorem Gq:PSs X [] B0:=fun _ _ σ H _ I h=>wpAny_execs_nil ⟨σ,H,I,h⟩
theorem Dn (h1:PS X st t) (h2:PSs X rest u):PSs X (st :: rest) (BX t u):=by
 intro pins s σ H D I h;refine wpAny_execs_cons (bw (h1 pins s σ H { D with nx:=u D } I h) fun f s1 q=>?_)
 cases f with
 | next =>
  obtain ⟨σ',H',I',q⟩:=q;exact h2 pins s1 σ' H' D I' q
 | ret v=>exact q
 | brk=>exact q
 | cont=>exact q
theorem Gp (h1:PS X st t):PSs X [st] t:=by
 intro pins s σ H D I h;refine wpAny_execs_cons (bw (h1 pins s σ H D I h) fun f s1 q=>?_)
 cases f with
 | next=>exact wpAny_execs_nil q
 | ret v=>exact q
 | brk=>exact q
 | cont=>exact q
def B8:TS:=fun D σ H=>D.ct σ H
theorem vD:PS X (.Continue pos) B8:=fun _ _ σ H _ I h=>wpAny_Continue ⟨σ,H,I,h⟩
theorem Inv.quiet (I:Inv X pins σ H s):interactive X.env = false:=by simp [interactive,I.ok.kind]
def B7 (te:TE):TS:=fun D σ H=>te σ H fun _ H1=>D.nx σ H1
theorem Gr (he:PE X e te) (hs:swapsWith e none pos.line X.env = pure false:=by rfl):PS X (.Expr e pos) (B7 te):=by
 intro pins s σ H D I h;exact wpAny_Expr_any (bw (he pins s σ H _ I h) fun v s1 ⟨x,H1,I1,r1,q1⟩=>⟨σ,H1,I1,q1⟩) I.quiet hs
def JO (te:TE):TS:=fun D σ H=>te σ H D.rt
theorem KW (he:PE X e te):PS X (.Return (some e) pos) (JO te):=by
 intro pins s σ H D I h;exact wpAny_Return_some (bw (he pins s σ H _ I h) fun v s1 ⟨x,H1,I1,r1,q1⟩=>⟨x,σ,H1,I1,r1,q1⟩)
def JS (c:TT) (t u:TS):TS:=fun D σ H=>c σ H fun b H1=>if b = true then t D σ H1 else u D σ H1
theorem NB {a b:List Stmt} {tc:TT} (hc:PT X c tc) (ha:PSs X a t) (hb:PSs X b u):PS X (.If c a b pos) (JS tc t u):=by
 intro pins s σ H D I h;refine wpAny_If (bw (hc pins s σ H _ I h) fun d s1 ⟨H1,I1,q1⟩=>?_)
 cases d with
 | true=>exact ha pins s1 σ H1 D I1 q1
 | false=>exact hb pins s1 σ H1 D I1 q1
end
abbrev TG:=V->St->Hp->(St->Hp->Prop)->Prop
variable {g:TG}
abbrev BC:=List V->St->Hp->(St->Hp->Prop)->Prop
def PG (X:Cx) (target:Expr) (t:TG):Prop :=
 ∀ (pins:List (Addr × Obj)) (s:Shared) (σ:St) (H:Hp) (v:V) (u:Value) (Q:St->Hp->Prop),Inv X pins σ H s->RelV v u->t v σ H Q ->
  wpAny (model X.prog X.w) X.A (assign target X.env u) (fun _ s'=>∃ σ' H',Inv X pins σ' H' s'/\Q σ' H') X.xe s
def O7 (X:Cx) (ts:List Expr) (t:BC):Prop :=
 ∀ (pins:List (Addr × Obj)) (s:Shared) (σ:St) (H:Hp) (vs:List V) (us:List Value) (Q:St->Hp->Prop),Inv X pins σ H s->Vals vs us->t vs σ H Q ->
  wpAny (model X.prog X.w) X.A (assignInOrder ((assignEach ts X.env).map (·.2)) us) (fun _ s'=>∃ σ' H',Inv X pins σ' H' s'/\Q σ' H') X.xe s
section
def jL (i:Nat):TG:=fun v σ H Q=>Q (σ.set i (some v)) H
theorem tE (hN:X.N.Nodup) (hi:X.N[i]? = some x) (hx:Loc X.env.scope x) (hf:X.fn x = true \/ X.env.scope.names.lookup x = some .local:=by first | exact .inl rfl | exact .inr rfl | assumption):PG X (.Name x pos) (jL i):=by
 intro pins s σ H v u Q I r h;exact wpAny_assign_Name (iC I hN hi hx r (fun s' I'=>⟨_,H,I',h⟩) hf)
def Ig:BC:=fun vs σ H Q=>vs = []/\Q σ H
def wy (t:TG) (u:BC):BC:=fun vs σ H Q=>∃ v r,vs = v :: r/\t v σ H fun σ' H'=>u r σ' H' Q
theorem ze:O7 X [] Ig:=by
 intro pins s σ H vs us Q I r h;obtain ⟨e,h⟩:=h;subst e
 cases r
 exact assignInOrder_nil ⟨σ,H,I,h⟩
theorem og {t : TG} {u : BC} (h1 : PG X e t) (h2 : O7 X es u)
    (hs:(assignEach (e :: es) X.env).map (·.2) = assign e X.env :: (assignEach es X.env).map (·.2):=by rfl):O7 X (e :: es) (wy t u):=by
 intro pins s σ H vs us Q I r h;obtain ⟨v,vr,e1,h⟩:=h;subst e1
 cases r with
 | cons r rr =>
  rw [hs];refine assignInOrder_cons (bw (h1 pins s σ H _ _ _ I r h) fun _ s1 ⟨σ1,H1,I1,q1⟩=>?_)
  exact h2 pins s1 σ1 H1 _ _ Q I1 rr q1
def Ie (K:W.Frag) (n:Nat) (t:BC):TG:=fun v σ H Q=>∃ a xs,v = .ref a/\SqT K H a xs/\xs.length = n/\t xs σ H Q
theorem Dv {t : BC} (hc : X.calm = true) (h : O7 X es t)
    (hn:(assignEach es X.env).length = n:=by rfl) (xC:(assignEach es X.env).findIdx? (·.1) = none:=by rfl):PG X (.Tuple es k pos) (Ie X.K n t):=by
 intro pins s σ H v u Q I r hw;obtain ⟨a,xs,e1,hq,hl,hw⟩:=hw;subst e1
 cases r
 obtain ⟨its,rv,ht,hz⟩:=I.tuple hq;refine assign_Tuple_tuple (I.ok.hd hc) ht (by simp [hn,<- hl,rv.length]) xC fun h' hx=>?_
 have I1:Inv X pins σ H { s with heap:=h' }:=I.kept (t':=s.toks) fun b o e=>hx b o (Nat.ne_of_lt (Heap.lt_size e)) e
 exact h pins _ σ H xs _ Q I1 (by simpa using rv) hw
def B9 (te:TE) (g:TG):TS:=fun D σ H=>te σ H fun x H1=>g x σ H1 D.nx
theorem KU {pos' : Pos} (hN : X.N.Nodup) (hi : X.N[i]? = some x) (hx : Loc X.env.scope x) (he : PE X e te) (hs : swapsWith e (some (.Name x pos')) pos.line X.env = pure false := by rfl) (hf : X.fn x = true \/ X.env.scope.names.lookup x = some .local := by first | exact .inl rfl | exact .inr rfl | assumption) :
    PS X (.Assign [.Name x pos'] e pos) (B9 te (jL i)):=by
 intro pins s σ H D I h;refine wpAny_Assign_Name (bw (he pins s σ H _ I h) fun v s1 ⟨y,H1,I1,r1,q1⟩=>?_) hs
 exact iC I1 hN hi hx r1 (fun s2 I2=>⟨_,H1,I2,q1⟩) hf
end
structure It where
 go:Nat->Hp->Prop
 yld:Nat->Hp->V->Hp->Prop
 stop:Nat->Hp->Prop
def FpOk (X:Cx) (pins:List (Addr × Obj)) (H:Hp) (b:Addr):Prop :=
 H b = none/\b ≠ X.env.locals/\b ∉ X.fs/\(b ∈ X.ex \/ X.s₀.heap.objs.size <= b)/\(∀ x c,X.env.cells.lookup x = some c->c ≠ b)/\∀ p ∈ X.pn ++ pins,p.1 ≠ b
theorem Inv.fpOk (I:Inv X pins σ H s) (hb:s.heap.objs.size <= b) (hn:H' b = none):FpOk X pins H' b:=by
 refine ⟨hn,Nat.ne_of_gt (Nat.lt_of_lt_of_le I.lt hb),I.nofs hb,.inr (Nat.le_trans I.sz hb),fun x c e z=>?_,fun p hp z=>?_⟩
 ·obtain ⟨v,q⟩:=I.cell x c e;exact absurd (Nat.lt_of_lt_of_le q.lt (by rw [z];exact hb)) (Nat.lt_irrefl _)
 ·exact absurd (Nat.lt_of_lt_of_le (Heap.lt_size (I.pin p hp).1) (by rw [z];exact hb)) (Nat.lt_irrefl _)
structure Turn (P:Program) (w:World) (K:W.Frag) (tg:Expr) (J:It) (fp:List Addr) (it:Addr) (tn:Nat->Heap->Prop):Prop where
 mem:it ∈ fp
 obj:∀ i h,tn i h->∀ b ∈ fp,∃ o,h.get? b = some o/\∀ v,o.data ≠ .cell v
 keep:∀ i h h',tn i h->(∀ b ∈ fp,∀ o,h.get? b = some o->h'.get? b = some o)->tn i h'
 item:∀ (X:Cx),X.prog = P->X.w = w->X.K = K->X.calm = true->∀ (i:Nat) (pins:List (Addr × Obj)) (s:Shared) (σ:St) (H:Hp) (E:Value->Shared->Prop),Inv X pins σ H s->(∀ b ∈ fp,FpOk X pins H b)->tn i s.heap->J.go i H ->
  wpAny (model P w) X.A (pyNext (.ref it)) (fun r s1=>∃ u,r = some u /\
   wpAny (model P w) X.A (letOwnedTupleGo tg (.ref it) u) (fun _ s2=>∃ x H',Inv X pins σ H' s2/\RelV x u/\J.yld i H x H'/\tn (i + 1) s2.heap/\∀ b ∈ fp,H' b = none) E s1) E s
 done:∀ (X:Cx),X.prog = P->X.w = w->X.K = K->X.calm = true->∀ (i:Nat) (pins:List (Addr × Obj)) (s:Shared) (σ:St) (H:Hp) (E:Value->Shared->Prop),Inv X pins σ H s->(∀ b ∈ fp,FpOk X pins H b)->tn i s.heap->J.stop i H ->
  wpAny (model P w) X.A (pyNext (.ref it)) (fun r s1=>r = none/\Inv X pins σ H s1) E s
 self:∀ (A:Around) (i:Nat) (s:Shared) (Q:Value->Shared->Prop) (E:Value->Shared->Prop),tn i s.heap->Q (.ref it) s->wpAny (model P w) A (pyIter (.ref it)) Q E s
abbrev TI:=St->Hp->(It->Hp->Prop)->Prop
def UD (X:Cx) (pins:List (Addr × Obj)) (σ:St) (tg:Expr) (R:It->Hp->Prop) (N1:Value) (s2:Shared):Prop :=
 ∃ (it:Addr) (fp:List Addr) (tn:Nat->Heap->Prop) (J:It) (H':Hp),N1 = .ref it/\Inv X pins σ H' s2/\Turn X.prog X.w X.K tg J fp it tn/\tn 0 s2.heap/\(∀ b ∈ fp,FpOk X pins H' b)/\R J H'
def PI (X:Cx) (tg iter:Expr) (wi:TI):Prop :=
 ∀ (pins:List (Addr × Obj)) (s:Shared) (σ:St) (H:Hp) (R:It->Hp->Prop),Inv X pins σ H s->wi σ H R ->
  wpAny (model X.prog X.w) X.A (eval iter X.env) (fun v s1=>wpAny (model X.prog X.w) X.A (pyIter v) (UD X pins σ tg R) X.xe s1) X.xe s
theorem wx {E : Value -> Shared -> Prop} {it : Addr} {o : Obj} {n : String} {vs : Array Value} {Q : Unit -> Shared -> Prop} (ho : s.heap.get? it = some o) (hc : o.cls = .type n) (hd : o.data = .fields vs)
    (hn:["enumerate","zip","dict_itemiterator","dict_reverseitemiterator","odict_iterator","itertools.zip_longest","itertools.pairwise"].contains n = false) (hQ:Q () s):wpAny M A (letOwnedTupleGo tg (.ref it) u) Q E s:=by
 unfold letOwnedTupleGo
 cases tg <;> first
  | exact wpAny_pure hQ
  | (cases u <;> first
      | exact wpAny_pure hQ
      | (refine wpAny_bind (wpAny_load ho ?_)
         rw [hc,hd];show wpAny M A (if (["enumerate","zip","dict_itemiterator","dict_reverseitemiterator","odict_iterator","itertools.zip_longest","itertools.pairwise"].contains n && vs[0]? == some (rawInt _)) = true then _ else _) Q E s
         rw [if_neg (by intro h;rw [hn,Bool.false_and] at h;cases h)];exact wpAny_pure hQ))
def II (K:W.Frag) (a:Addr):It :=
 ⟨fun i H=>∃ xs x,SqL K H a xs/\xs[i]? = some x,fun i H x H'=>H' = H/\∀ xs,SqL K H a xs->xs[i]? = some x,fun i H=>∃ xs,SqL K H a xs/\xs.length <= i⟩
def IH (K:W.Frag) (a:Addr):It :=
 ⟨fun i H=>∃ xs x,SqT K H a xs/\xs[i]? = some x,fun i H x H'=>H' = H/\∀ xs,SqT K H a xs->xs[i]? = some x,fun i H=>∃ xs,SqT K H a xs/\xs.length <= i⟩
def JI (lo:Int) (n:Nat):It:=⟨fun i _=>i < n,fun i H x H'=>H' = H/\x = .int (lo + i),fun i _=>n <= i⟩
theorem zV (a it:Addr):Turn P w K tg (II K a) [it] it (fun i h=>h.IsListIter it a i) where
 mem:=by simp
 obj:=fun i h st b hb=>by
  have e:b = it:=by simpa using hb
  subst e;obtain ⟨o,e,c,d⟩:=st;exact ⟨o,e,fun v z=>by rw [d] at z;cases z⟩
 keep:=fun i h h' st k=>st.at fun o e=>k it (by simp) o e
 item:=by
  intro X hP hw hK hc i pins s σ H E I hf st hg;subst hP hw hK;obtain ⟨xs,x,hq,hx⟩:=hg;obtain ⟨its,rv,p,hz⟩:=I.list hq;obtain ⟨u,hu,ru⟩:=rv.get hx;obtain ⟨f0,f1,f2,f3,f4,f5⟩:=hf it (by simp);refine wpAny_pyNext_list_item st p.isList (x:=u) (by simpa using hu) fun h' aO sb=>?_
  have I1:Inv X pins σ H { s with heap:=h' }:=I.turned (t':=s.toks) (fun b o hb e=>(sb.2 b hb).trans e) f0 f1 f3 f4 f5
  obtain ⟨o,e,c,d⟩:=id aO;exact ⟨u,rfl,wx (s:={ s with heap:=h' }) e c d (by decide) ⟨x,H,I1,ru,⟨rfl,fun ys hy=>by rw [I.list_inj hy hq];exact hx⟩,aO,fun b hb=>(hf b hb).1⟩⟩
 done:=by
  intro X hP hw hK hc i pins s σ H E I hf st hg;subst hP hw hK;obtain ⟨xs,hq,hx⟩:=hg;obtain ⟨its,rv,p,hz⟩:=I.list hq;obtain ⟨f0,f1,f2,f3,f4,f5⟩:=hf it (by simp);have hl:=rv.length;exact wpAny_pyNext_list_end (I.ok.hd hc) st p.isList (by simp;omega) fun h' eb=>⟨rfl,I.turned (t':=s.toks) (fun b o hb e=>eb b o hb e) f0 f1 f3 f4 f5⟩
 self:=fun _ _ _ _ _ st h=>wpAny_pyIter_listiter st h
theorem xI (a it:Addr):Turn P w K tg (IH K a) [it] it (fun i h=>h.IsTupleIter it a i) where
 mem:=by simp
 obj:=fun i h st b hb=>by
  have e:b = it:=by simpa using hb
  subst e;obtain ⟨o,e,c,d⟩:=st;exact ⟨o,e,fun v z=>by rw [d] at z;cases z⟩
 keep:=fun i h h' st k=>st.at fun o e=>k it (by simp) o e
 item:=by
  intro X hP hw hK hc i pins s σ H E I hf st hg;subst hP hw hK;obtain ⟨xs,x,hq,hx⟩:=hg;obtain ⟨its,rv,p,hz⟩:=I.tuple hq;obtain ⟨u,hu,ru⟩:=rv.get hx;obtain ⟨f0,f1,f2,f3,f4,f5⟩:=hf it (by simp);refine wpAny_pyNext_tuple_item st (show s.heap.IsTuple a its.toArray from p) (x:=u) (by simpa using hu) fun h' aO sb=>?_
  have I1:Inv X pins σ H { s with heap:=h' }:=I.turned (t':=s.toks) (fun b o hb e=>(sb.2 b hb).trans e) f0 f1 f3 f4 f5
  obtain ⟨o,e,c,d⟩:=id aO;exact ⟨u,rfl,wx (s:={ s with heap:=h' }) e c d (by decide) ⟨x,H,I1,ru,⟨rfl,fun ys hy=>by rw [I.tuple_inj hy hq];exact hx⟩,aO,fun b hb=>(hf b hb).1⟩⟩
 done:=by
  intro X hP hw hK hc i pins s σ H E I hf st hg;subst hP hw hK;obtain ⟨xs,hq,hx⟩:=hg;obtain ⟨its,rv,p,hz⟩:=I.tuple hq;obtain ⟨f0,f1,f2,f3,f4,f5⟩:=hf it (by simp);have hl:=rv.length;exact wpAny_pyNext_tuple_end (I.ok.hd hc) st (show s.heap.IsTuple a its.toArray from p) (by simp;omega) fun h' eb=>⟨rfl,I.turned (t':=s.toks) (fun b o hb e=>eb b o hb e) f0 f1 f3 f4 f5⟩
 self:=fun _ _ _ _ _ st h=>wpAny_pyIter_tupleiter st h
theorem xJ (it:Addr) (lo:Int) (n:Nat):Turn P w K tg (JI lo n) [it] it (fun i h=>IsRangeIter h it (lo + (i:Nat) * 1) ((n:Int) - (i:Nat)) 1) where
 mem:=by simp
 obj:=fun i h st b hb=>by
  have e:b = it:=by simpa using hb
  subst e;exact ⟨_,st,fun v z=>by
   have z':Data.fields _ = Data.cell v:=z
   cases z'⟩
 keep:=fun i h h' st k=>k it (by simp) _ st
 item:=by
  intro X hP hw hK hc i pins s σ H E I hf st hg;subst hP hw hK;obtain ⟨f0,f1,f2,f3,f4,f5⟩:=hf it (by simp);have W:=Walks.range (prog:=X.prog) (w:=X.w) (I.ok.hd hc) it lo 1 n;refine W.item i s _ _ hg st fun v h' tk hv aO kk=>?_
  obtain ⟨t,rfl⟩:=hv;have I1:Inv X pins σ H { s with heap:=h',toks:=tk }:=I.turned (fun b o hb e=>kk b o (by simpa using hb) e) f0 f1 f3 f4 f5
  refine ⟨_,rfl,wx (s:={ s with heap:=h',toks:=tk }) (n:="range_iterator") aO rfl rfl (by decide) ⟨.int (lo + i),H,I1,⟨t,?_⟩,⟨rfl,rfl⟩,aO,fun b hb=>(hf b hb).1⟩⟩
  rw [Int.mul_one]
 done:=by
  intro X hP hw hK hc i pins s σ H E I hf st hg;subst hP hw hK;obtain ⟨f0,f1,f2,f3,f4,f5⟩:=hf it (by simp);exact wpAny_pyNext_range_end (I.ok.hd hc) st (by have:n <= i:=hg;omega) fun h' eb=>⟨rfl,I.turned (t':=s.toks) (fun b o hb e=>eb b o hb e) f0 f1 f3 f4 f5⟩
 self:=fun _ _ _ _ _ st h=>wpAny_pyIter_rangeiter st h
section
def zt (K:W.Frag) (tl:TE):TI:=fun σ H R=>tl σ H fun x H1=>∃ a,x = .ref a/\(∃ xs,SqL K H1 a xs)/\R (II K a) H1
def HS (K:W.Frag) (tl:TE):TI:=fun σ H R=>tl σ H fun x H1=>∃ a,x = .ref a/\(∃ xs,SqT K H1 a xs)/\R (IH K a) H1
theorem Gz {l:Expr} {tl:TE} (hl:PE X l tl):PI X tg l (zt X.K tl):=by
 intro pins s σ H R I h;refine bw (hl pins s σ H _ I h) fun v s1 ⟨x,H1,I1,r1,q1⟩=>?_
 obtain ⟨a,e,⟨xs,hq⟩,q⟩:=q1;subst e
 cases r1
 obtain ⟨its,rv,p,hz⟩:=I1.list hq;refine wpAny_pyIter_list p.isList ?_;refine ⟨s1.heap.objs.size,[s1.heap.objs.size],_,_,H1,rfl,I1.kept (t':=s1.toks) fun b o e=>Heap.get?_push_of_some _ e,zV a _,⟨_,Heap.get?_push_size _ rfl,rfl,rfl⟩,fun b hb=>?_,q⟩
 have e:b = s1.heap.objs.size:=by simpa using hb
 subst e;exact I1.fpOk (Nat.le_refl _) (I1.hok.fresh (Nat.le_refl _))
theorem K2 {l:Expr} {tl:TE} (hl:PE X l tl):PI X tg l (HS X.K tl):=by
 intro pins s σ H R I h;refine bw (hl pins s σ H _ I h) fun v s1 ⟨x,H1,I1,r1,q1⟩=>?_
 obtain ⟨a,e,⟨xs,hq⟩,q⟩:=q1;subst e
 cases r1
 obtain ⟨its,rv,p,hz⟩:=I1.tuple hq;refine wpAny_pyIter_tuple (show s1.heap.IsTuple a its.toArray from p) ?_;refine ⟨s1.heap.objs.size,[s1.heap.objs.size],_,_,H1,rfl,I1.kept (t':=s1.toks) fun b o e=>Heap.get?_push_of_some _ e,xI a _,⟨_,Heap.get?_push_size _ rfl,rfl,rfl⟩,fun b hb=>?_,q⟩
 have e:b = s1.heap.objs.size:=by simpa using hb
 subst e;exact I1.fpOk (Nat.le_refl _) (I1.hok.fresh (Nat.le_refl _))
theorem Dc {R : It -> Hp -> Prop} {E : Value -> Shared -> Prop} {lo hi : Int} {t u v : Tok} {tk : Nat} (I : Inv X pins σ H s) (h1 : -(2 ^ 62) <= lo) (h2 : lo < 2 ^ 62) (h3 : -(2 ^ 62) <= hi) (h4 : hi < 2 ^ 62)
    (q:R (JI lo (hi - lo).toNat) H):wpAny (model X.prog X.w) X.A (pyIter (.ref s.heap.objs.size)) (UD X pins σ tg R) E { s with heap:=s.heap.push { cls:=.type "range",data:=.fields #[.int lo t,.int hi u,.int 1 v] },toks:=tk }:=by
 refine wpAny_pyIter_range (IsRange.new ..) (small_one h1 h2 h3 h4) ?_;have I1:Inv X pins σ H { s with heap:=s.heap.push { cls:=.type "range",data:=.fields #[.int lo t,.int hi u,.int 1 v] },toks:=tk }:=I.kept fun b o e=>Heap.get?_push_of_some _ e
 refine ⟨(s.heap.push { cls:=.type "range",data:=.fields #[.int lo t,.int hi u,.int 1 v] }).objs.size,[(s.heap.push { cls:=.type "range",data:=.fields #[.int lo t,.int hi u,.int 1 v] }).objs.size],_,_,H,rfl,
  I1.kept (t':=tk) fun b o e=>Heap.get?_push_of_some _ e,xJ _ lo (hi - lo).toNat,?_,fun b hb=>?_,q⟩
 ·have e1:lo + ((0:Nat):Int) * 1 = lo:=by simp
  have e2:(((hi - lo).toNat:Nat):Int) - ((0:Nat):Int) = Builtin.Range.rangeSize lo hi 1:=by rw [rangeSize_one];split <;> omega
  show IsRangeIter _ _ (lo + ((0:Nat):Int) * 1) ((((hi - lo).toNat:Nat):Int) - ((0:Nat):Int)) 1;rw [e1,e2];exact Heap.get?_push_size _ rfl
 ·have e:b = (s.heap.push { cls:=.type "range",data:=.fields #[.int lo t,.int hi u,.int 1 v] }).objs.size:=by simpa using hb
  subst e;exact I1.fpOk (Nat.le_refl _) (I1.hok.fresh (Nat.le_refl _))
def zq (ta:TA):TI:=fun σ H R=>ta σ H fun vs H1=>∃ j:Int,vs = [.int j]/\-(2 ^ 62) <= j/\j < 2 ^ 62/\R (JI 0 j.toNat) H1
theorem Av {a:Expr} {ta:TA} (hg:Gl X "range") (hm:X.mg "range" = none) (ha:PA X [a] ta) (hs:starEach [a] X.env = [(false,eval a X.env)]:=by rfl):PI X tg (.Call (.Name "range" p) [a] [] pos) (zq ta):=by
 intro pins s σ H R I h;refine Call_ (lH I hg hm boot_range (PyProof.Rows.callWith_type1 (bw (ha pos pins s σ H _ I h) fun us s1 ⟨vs,H1,I1,r1,q1⟩=>?_) hs rfl))
 obtain ⟨j,e,q1,q2,q⟩:=q1;subst e
 cases r1 with
 | cons r rr =>
  cases rr
  obtain ⟨t,rfl⟩:=r;exact call_range_1 (Dc I1 (by omega) (by omega) q1 q2 (by simpa using q))
def JT (wi:TI) (g:TG) (tb:TS):TS:=fun D σ H=>wi σ H fun J H1=>∃ W:Nat->Nat->St->Hp->Prop,(∃ m,W 0 m σ H1)/\∀ i m σ H,W i m σ H ->
 (J.stop i H/\D.nx σ H) \/ (J.go i H/\∃ N:St->Hp->Prop,(∀ σ' H',N σ' H'->∃ m',m' < m/\W (i + 1) m' σ' H')/\∀ x H',J.yld i H x H'->g x σ H' fun σ2 H2=>tb { D with nx:=N,ct:=N,bk:=D.nx } σ2 H2)
def cp (fp:List Addr) (h:Heap):List (Addr × Obj):=fp.filterMap fun b=>(h.get? b).map fun o=>(b,o)
theorem bZ {o:Obj} (hb:b ∈ fp) (e:h.get? b = some o):(b,o) ∈ cp fp h:=List.mem_filterMap.mpr ⟨b,hb,by rw [e];rfl⟩
theorem jo {p:Addr × Obj} (hp:p ∈ cp fp h):p.1 ∈ fp/\h.get? p.1 = some p.2:=by
 obtain ⟨b,hb,e⟩:=List.mem_filterMap.mp hp
 cases q:h.get? b with
 | none=>rw [q] at e;cases e
 | some o =>
  rw [q] at e;have e':(b,o) = p:=Option.some.inj e;subst e';exact ⟨hb,q⟩
theorem Inv.pinned (I:Inv X pins σ H s) (hf:∀ b ∈ fp,FpOk X pins H b) (ho:∀ b ∈ fp,∃ o,s.heap.get? b = some o/\∀ v,o.data ≠ .cell v):Inv X (pins ++ cp fp s.heap) σ H s :=
 I.pins_of fun p hp=>(List.mem_append.mp hp).elim (fun z=>I.pin p (List.mem_append_right _ z)) fun z=>by
  obtain ⟨hb,e⟩:=jo z;obtain ⟨f0,f1,f2,_⟩:=hf p.1 hb;obtain ⟨o,e',d⟩:=ho p.1 hb;rw [e] at e';cases e';exact ⟨e,f0,f1,f2,d⟩
theorem Inv.unpinned {pl:List (Addr × Obj)} (I:Inv X (pins ++ pl) σ H s):Inv X pins σ H s:=I.pins_of fun p hp=>I.pin p (List.mem_append_right _ (List.mem_append_left _ hp))
theorem KY {iter : Expr} {body : List Stmt} {wi : TI} (hp : PassesOwn (model X.prog X.w) X.A X.env X.xe) (hc : X.calm = true) (hi : PI X tg iter wi) (hg : PG X tg g) (hb : PSs X body tb)
    (hs:∀ x,foldedSetIterable iter X.env x = pure x:=by intro _;rfl):PS X (.For tg iter body [] pos) (JT wi g tb):=by
 intro pins s σ H D I h;refine wpAny_For (bw (hi pins s σ H _ I h) fun v s1 h1=>bw h1 fun N1 s2 h2=>?_) hs
 obtain ⟨it,fp,tn,J,H2,e,I2,T,Fd,f2,W,⟨m0,w0⟩,turn⟩:=h2;subst e;have jQ:∀ {H':Hp},(∀ b ∈ fp,H' b = none)->∀ b ∈ fp,FpOk X pins H' b:=fun hn b hb=>⟨hn b hb,(f2 b hb).2⟩
 refine codeAny_forLoop_any (fun n s'=>∃ i σ' H',Inv X pins σ' H' s'/\tn i s'.heap/\(∀ b ∈ fp,H' b = none)/\W i n σ' H') ?_ m0 ⟨0,σ,H2,I2,Fd,fun b hb=>(f2 b hb).1,w0⟩
 rintro n s3 ⟨i,σ3,H3,I3,Aa,T5,w3⟩
 rcases turn i n σ3 H3 w3 with ⟨stop,qn⟩ | ⟨go,N,hN,step⟩
 ·refine wpAny_passesOwn hp (bw (T.done X rfl rfl rfl hc i pins s3 σ3 H3 X.xe I3 (jQ T5) Aa stop) fun r s4 ⟨hr,I4⟩=>?_)
  subst hr;exact wpAny_execs_nil ⟨σ3,H3,I4,qn⟩
 ·refine wpAny_passesOwn hp (bw (T.item X rfl rfl rfl hc i pins s3 σ3 H3 X.xe I3 (jQ T5) Aa go) fun r s4 ⟨u,hr,h4⟩=>?_)
  subst hr;refine wpAny_passesOwn hp (bw h4 fun _ s5 ⟨x,H5,I5,r5,y5,Qi,Xc⟩=>?_);have Yw:=I5.pinned (jQ Xc) (T.obj _ _ Qi);refine wpAny_passesOwn hp (bw (hg _ s5 σ3 H5 x u _ Yw r5 (step x H5 y5)) fun _ s6 ⟨σ6,H6,I6,q6⟩=>?_)
  refine wpAny_passesOwn hp (bw (hb _ s6 σ6 H6 _ I6 q6) fun f s7 q7=>?_)
  have again:∀ {σ7:St} {H7:Hp},Inv X (pins ++ cp fp s5.heap) σ7 H7 s7->N σ7 H7->∃ m,m < n/\∃ i σ' H',Inv X pins σ' H' s7/\tn i s7.heap/\(∀ b ∈ fp,H' b = none)/\W i m σ' H':=fun {σ7 H7} I7 n7=>by
   obtain ⟨m',hm,w7⟩:=hN σ7 H7 n7;refine ⟨m',hm,i + 1,σ7,H7,I7.unpinned,T.keep _ _ _ Qi fun b hb o e=>(I7.pin (b,o) (List.mem_append_right _ (List.mem_append_right _ (bZ hb e)))).1,fun b hb=>?_,w7⟩
   obtain ⟨o,e,d⟩:=T.obj _ _ Qi b hb;exact (I7.pin (b,o) (List.mem_append_right _ (List.mem_append_right _ (bZ hb e)))).2.1
  cases f with
  | next=>obtain ⟨σ7,H7,I7,n7⟩:=q7;exact again I7 n7
  | cont=>obtain ⟨σ7,H7,I7,n7⟩:=q7;exact again I7 n7
  | brk=>obtain ⟨σ7,H7,I7,q7⟩:=q7;exact ⟨σ7,H7,I7.unpinned,q7⟩
  | ret v=>obtain ⟨x7,σ7,H7,I7,r7,q7⟩:=q7;exact ⟨x7,σ7,H7,I7.unpinned,r7,q7⟩
end
theorem Eo (Pv : Nat -> St -> Hp -> Prop) (h0 : Pv 0 σ H) (hl : ∀ i σ H, i <= xs.length -> Pv i σ H -> SqL K H a xs)
    (hs:∀ i x σ H,xs[i]? = some x->Pv i σ H->g x σ H fun σ2 H2=>tb { D with nx:=Pv (i + 1),ct:=Pv (i + 1),bk:=D.nx } σ2 H2) (hd:∀ σ H,Pv xs.length σ H->D.nx σ H) :
    ∃ W:Nat->Nat->St->Hp->Prop,(∃ m,W 0 m σ H)/\∀ i m σ H,W i m σ H ->
     ((II K a).stop i H/\D.nx σ H) \/ ((II K a).go i H/\∃ N:St->Hp->Prop,(∀ σ' H',N σ' H'->∃ m',m' < m/\W (i + 1) m' σ' H')/\∀ x H',(II K a).yld i H x H'->g x σ H' fun σ2 H2=>tb { D with nx:=N,ct:=N,bk:=D.nx } σ2 H2):=by
 refine ⟨fun i m σ H=>m = xs.length - i/\i <= xs.length/\Pv i σ H,⟨xs.length,by simp,Nat.zero_le _,h0⟩,?_⟩
 rintro i m σ H ⟨rfl,hi,p⟩;have q:=hl i σ H hi p
 by_cases eR:i < xs.length
 ·refine .inr ⟨⟨xs,xs[i],q,by simp [eR]⟩,Pv (i + 1),fun σ' H' p'=>⟨xs.length - (i + 1),by omega,rfl,eR,p'⟩,fun x H' y=>?_⟩
  obtain ⟨e,y⟩:=y;subst e;exact hs i x σ _ (y xs q) p
 ·have e:i = xs.length:=by omega
  subst e;exact .inl ⟨⟨xs,q,Nat.le_refl _⟩,hd σ H p⟩
theorem Ih (Pv : Nat -> St -> Hp -> Prop) (h0 : Pv 0 σ H) (hl : ∀ i σ H, i <= xs.length -> Pv i σ H -> SqT K H a xs)
    (hs:∀ i x σ H,xs[i]? = some x->Pv i σ H->g x σ H fun σ2 H2=>tb { D with nx:=Pv (i + 1),ct:=Pv (i + 1),bk:=D.nx } σ2 H2) (hd:∀ σ H,Pv xs.length σ H->D.nx σ H) :
    ∃ W:Nat->Nat->St->Hp->Prop,(∃ m,W 0 m σ H)/\∀ i m σ H,W i m σ H ->
     ((IH K a).stop i H/\D.nx σ H) \/ ((IH K a).go i H/\∃ N:St->Hp->Prop,(∀ σ' H',N σ' H'->∃ m',m' < m/\W (i + 1) m' σ' H')/\∀ x H',(IH K a).yld i H x H'->g x σ H' fun σ2 H2=>tb { D with nx:=N,ct:=N,bk:=D.nx } σ2 H2):=by
 refine ⟨fun i m σ H=>m = xs.length - i/\i <= xs.length/\Pv i σ H,⟨xs.length,by simp,Nat.zero_le _,h0⟩,?_⟩
 rintro i m σ H ⟨rfl,hi,p⟩;have q:=hl i σ H hi p
 by_cases eR:i < xs.length
 ·refine .inr ⟨⟨xs,xs[i],q,by simp [eR]⟩,Pv (i + 1),fun σ' H' p'=>⟨xs.length - (i + 1),by omega,rfl,eR,p'⟩,fun x H' y=>?_⟩
  obtain ⟨e,y⟩:=y;subst e;exact hs i x σ _ (y xs q) p
 ·have e:i = xs.length:=by omega
  subst e;exact .inl ⟨⟨xs,q,Nat.le_refl _⟩,hd σ H p⟩
theorem Bh {lo : Int} (Pv : Nat -> St -> Hp -> Prop) (h0 : Pv 0 σ H)
    (hs:∀ i σ H,i < n->Pv i σ H->g (.int (lo + i)) σ H fun σ2 H2=>tb { D with nx:=Pv (i + 1),ct:=Pv (i + 1),bk:=D.nx } σ2 H2) (hd:∀ σ H,Pv n σ H->D.nx σ H) :
    ∃ W:Nat->Nat->St->Hp->Prop,(∃ m,W 0 m σ H)/\∀ i m σ H,W i m σ H ->
     ((JI lo n).stop i H/\D.nx σ H) \/ ((JI lo n).go i H/\∃ N:St->Hp->Prop,(∀ σ' H',N σ' H'->∃ m',m' < m/\W (i + 1) m' σ' H')/\∀ x H',(JI lo n).yld i H x H'->g x σ H' fun σ2 H2=>tb { D with nx:=N,ct:=N,bk:=D.nx } σ2 H2):=by
 refine ⟨fun i m σ H=>m = n - i/\i <= n/\Pv i σ H,⟨n,by simp,Nat.zero_le _,h0⟩,?_⟩
 rintro i m σ H ⟨rfl,hi,p⟩
 by_cases eR:i < n
 ·refine .inr ⟨eR,Pv (i + 1),fun σ' H' p'=>⟨n - (i + 1),by omega,rfl,eR,p'⟩,fun x H' y=>?_⟩
  obtain ⟨e,y⟩:=y;subst e y;exact hs i σ _ eR p
 ·have e:i = n:=by omega
  subst e;exact .inl ⟨Nat.le_refl _,hd σ H p⟩
abbrev R2:=V->V->Hp->VK->Prop
variable {r:R2}
def OpR (X:Cx) (f:Value->Value->Sem Value) (r:R2):Prop :=
 ∀ (pins:List (Addr × Obj)) (s:Shared) (σ:St) (H:Hp) (x y:V) (v u:Value) (Q:VK),Inv X pins σ H s->RelV x v->RelV y u->r x y H Q ->
  wpAny (model X.prog X.w) X.A (f v u) (EP X pins σ Q) X.xe s
def P5 (X:Cx) (f:Value->Sem Value) (r:V->Hp->VK->Prop):Prop :=
 ∀ (pins:List (Addr × Obj)) (s:Shared) (σ:St) (H:Hp) (x:V) (v:Value) (Q:VK),Inv X pins σ H s->RelV x v->r x H Q ->
  wpAny (model X.prog X.w) X.A (f v) (EP X pins σ Q) X.xe s
def bq (X:Cx) (f:Value) (r:List V->Hp->VK->Prop):Prop :=
 ∀ (pins:List (Addr × Obj)) (s:Shared) (σ:St) (H:Hp) (xs:List V) (us:List Value) (Q:VK),Inv X pins σ H s->Vals xs us->r xs H Q ->
  wpAny (model X.prog X.w) X.A (call f us) (EP X pins σ Q) X.xe s
def Fs (r:R2) (ta tb:TE):TE:=fun σ H Q=>ta σ H fun x H1=>tb σ H1 fun y H2=>r x y H2 Q
def Qf (r:V->Hp->VK->Prop) (ta:TE):TE:=fun σ H Q=>ta σ H fun x H1=>r x H1 Q
def rI (C:Int->Int->Prop) (g:Int->Int->V):R2:=fun x y H Q=>∃ i j,x = .int i/\y = .int j/\C i j/\Q (g i j) H
def Ao (g:Int->Int->V):R2:=fun x y H Q=>∃ i j,x = .int i/\y = .int j/\Q (g i j) H
def rU (g:Int->V):V->Hp->VK->Prop:=fun x H Q=>∃ i,x = .int i/\Q (g i) H
section
variable {a b:Expr} {tb tc:TE}
theorem Mv (ha : PE X a ta) (hb : PE X b tb) {R : V -> V -> Hp -> Prop} (I : Inv X pins σ H s)
    (h:ta σ H fun x H1=>tb σ H1 fun y H2=>R x y H2) {Q:Value->Shared->Prop} {f:Value->Value->Sem Value}
    (hf:∀ v u s2 x y H2,Inv X pins σ H2 s2->RelV x v->RelV y u->R x y H2->wpAny (model X.prog X.w) X.A (f v u) Q X.xe s2) :
    wpAny (model X.prog X.w) X.A (eval a X.env) (fun v s₁=>wpAny (model X.prog X.w) X.A (eval b X.env) (fun u s₂=>wpAny (model X.prog X.w) X.A (f v u) Q X.xe s₂) X.xe s₁) X.xe s:=by
 refine bw (ha pins s σ H _ I h) fun v s1 ⟨x,H1,I1,r1,q1⟩=>?_
 refine bw (hb pins s1 σ H1 _ I1 q1) fun u s2 ⟨y,H2,I2,r2,q2⟩=>?_
 exact hf v u s2 x y H2 I2 r1 r2 q2
theorem NG {op:Operator} (ho:OpR X (binaryOp op) r) (ha:PE X a ta) (hb:PE X b tb):PE X (.BinOp a op b pos) (Fs r ta tb):=by
 intro pins s σ H Q I h;exact wpAny_BinOp (Mv ha hb I h fun v u s2 x y H2 I2 rx ry q=>ho pins s2 σ H2 x y v u Q I2 rx ry q)
theorem ND {op:UnaryOp} {r:V->Hp->VK->Prop} (ho:P5 X (unaryOp op) r) (ha:PE X a ta):PE X (.UnaryOp op a pos) (Qf r ta):=by
 intro pins s σ H Q I h;exact UnaryOp_ (bw (ha pins s σ H _ I h) fun v s1 ⟨x,H1,I1,r1,q1⟩=>ho pins s1 σ H1 x v Q I1 r1 q1)
theorem MM {f : Value -> Value -> Sem Value} {C : Int -> Int -> Prop} {g : Int -> Int -> Int}
    (rule:∀ (i j:Int) (t u:Tok) (s:Shared) (Q:Value->Shared->Prop) (E:Value->Shared->Prop),C i j->Q (.int (g i j) s.toks) { s with toks:=s.toks + 1 }->wpAny (model X.prog X.w) X.A (f (.int i t) (.int j u)) Q E s) :
    OpR X f (rI C fun i j=>.int (g i j)):=by
 intro pins s σ H x y v u Q I rx ry h;obtain ⟨i,j,rfl,rfl,hc,q⟩:=h;obtain ⟨t,rfl⟩:=rx;obtain ⟨t',rfl⟩:=ry;exact rule i j t t' s _ _ hc ⟨.int (g i j),H,I.tok _,⟨_,rfl⟩,q⟩
theorem GZ {f : Value -> Value -> Sem Value} {g : Int -> Int -> Int}
    (rule:∀ (i j:Int) (t u:Tok) (s:Shared) (Q:Value->Shared->Prop) (E:Value->Shared->Prop),Q (.int (g i j) s.toks) { s with toks:=s.toks + 1 }->wpAny (model X.prog X.w) X.A (f (.int i t) (.int j u)) Q E s) :
    OpR X f (Ao fun i j=>.int (g i j)):=by
 intro pins s σ H x y v u Q I rx ry h;obtain ⟨i,j,rfl,rfl,q⟩:=h;obtain ⟨t,rfl⟩:=rx;obtain ⟨t',rfl⟩:=ry;exact rule i j t t' s _ _ ⟨.int (g i j),H,I.tok _,⟨_,rfl⟩,q⟩
theorem Lm {f : Value -> Value -> Sem Value} {g : Int -> Int -> Bool}
    (rule:∀ (i j:Int) (t u:Tok) (s:Shared) (Q:Value->Shared->Prop) (E:Value->Shared->Prop),Q (.bool (g i j)) s->wpAny (model X.prog X.w) X.A (f (.int i t) (.int j u)) Q E s) :
    OpR X f (Ao fun i j=>.bl (g i j)):=by
 intro pins s σ H x y v u Q I rx ry h;obtain ⟨i,j,rfl,rfl,q⟩:=h;obtain ⟨t,rfl⟩:=rx;obtain ⟨t',rfl⟩:=ry;exact rule i j t t' s _ _ ⟨.bl (g i j),H,I,rfl,q⟩
def Pg (i j:Int):Prop:=0 < j/\j < 1073741824
def Pf (i j:Int):Prop:=0 <= j/\j <= 1000000/\i.natAbs < 2 ^ 64
def CMul (i j:Int):Prop:=(-(2 ^ 64) < i/\i < 2 ^ 64) \/ (-(2 ^ 64) < j/\j < 2 ^ 64)
theorem CMul.ok {i j:Int} (h:CMul i j):IntMulOk i j:=by
 rcases h with ⟨h1,h2⟩ | ⟨h1,h2⟩
 ·exact .of_left (intBits_le_64 h1 h2)
 ·exact .of_right (intBits_le_64 h1 h2)
theorem xH (k:Nat):(0:Int) <= 2 ^ k:=by
 rw [two_pow_cast];exact Int.natCast_nonneg _
theorem Ll:OpR X (binaryOp .Add) (Ao fun i j=>.int (i + j)):=GZ fun _ _ _ _ _ _ _ q=>add_int q
theorem lD:OpR X (binaryOp .Sub) (Ao fun i j=>.int (i - j)):=GZ fun _ _ _ _ _ _ _ q=>sub_int q
theorem Lh:OpR X (binaryOp .Mult) (rI CMul fun i j=>.int (i * j)):=MM fun _ _ _ _ _ _ _ hc q=>mul_int q hc.ok
theorem aJ:OpR X (binaryOp .FloorDiv) (rI Pg fun i j=>.int (i / j)):=MM fun i j _ _ _ _ _ hc q=>by
 have h1:(0:Int) < j:=hc.1;have h2:j < 1073741824:=hc.2;exact floordiv_int (by omega) (by rw [Int.fdiv_eq_ediv_of_nonneg i (by omega)];exact q) (.inl (PyProof.noPylong_small (by omega)))
theorem aP:OpR X (binaryOp .Mod) (rI (fun _ j=>0 < j) fun i j=>.int (i % j)):=MM fun i j _ _ _ _ _ hc q=>by
 have h1:(0:Int) < j:=hc;exact mod_int' (by omega) (by rw [Int.fmod_eq_emod_of_nonneg i (by omega)];exact q)
theorem ym:OpR X (binaryOp .Pow) (rI Pf fun i j=>.int (i ^ j.toNat)):=MM fun _ _ _ _ _ _ _ hc q=>pow_int_small hc.1 hc.2.1 hc.2.2 q
theorem Lf:OpR X (binaryOp .RShift) (rI (fun _ j=>0 <= j) fun i j=>.int (i / 2 ^ j.toNat)):=MM fun i j _ _ _ _ _ hc q =>
 rshift_int hc (by rw [Int.fdiv_eq_ediv_of_nonneg i (xH _)];exact q)
theorem Lk:OpR X (binaryOp .BitAnd) (Ao fun i j=>.int (Builtin.bitAnd i j)):=GZ fun _ _ _ _ _ _ _ q=>and_int q
theorem NM:OpR X (binaryOp .BitOr) (Ao fun i j=>.int (Builtin.bitOr i j)):=GZ fun _ _ _ _ _ _ _ q=>or_int q
theorem Vb {f : Value -> Sem Value} {g : Int -> Int}
    (rule:∀ (i:Int) (t:Tok) (s:Shared) (Q:Value->Shared->Prop) (E:Value->Shared->Prop),Q (.int (g i) s.toks) { s with toks:=s.toks + 1 }->wpAny (model X.prog X.w) X.A (f (.int i t)) Q E s) :
    P5 X f (rU fun i=>.int (g i)):=by
 intro pins s σ H x v Q I rx h;obtain ⟨i,rfl,q⟩:=h;obtain ⟨t,rfl⟩:=rx;exact rule i t s _ _ ⟨.int (g i),H,I.tok _,⟨_,rfl⟩,q⟩
theorem nN:P5 X (unaryOp .USub) (rU fun i=>.int (-i)):=Vb fun _ _ _ _ _ q=>neg_int q
end
section
variable {a b:Expr} {tb tc:TE}
theorem uq {k k':Bool} (I:Inv X pins σ H s) (q:Q (.bl k) H) (e:k = k'):EP X pins σ Q (.bool k') s:=by
 subst e;exact ⟨.bl k,H,I,rfl,q⟩
theorem NN:OpR X (compareOp .Lt) (Ao fun i j=>.bl (decide (i < j))):=Lm fun _ _ _ _ _ _ _ q=>lt_int q
theorem NO:OpR X (compareOp .LtE) (Ao fun i j=>.bl (decide (i <= j))):=Lm fun _ _ _ _ _ _ _ q=>le_int q
theorem Jf:OpR X (compareOp .Gt) (Ao fun i j=>.bl (decide (j < i))):=Lm fun _ _ _ _ _ _ _ q=>gt_int q
theorem AB:OpR X (compareOp .Lt) (fun x y H Q=>∃ i j,x = .str i/\y = .str j/\Q (.bl (decide (i.cps.toList < j.cps.toList))) H):=by
 intro pins s σ H x y v u Q I rx ry h;obtain ⟨i,j,rfl,rfl,q⟩:=h;obtain ⟨t,rfl⟩:=rx;obtain ⟨t',rfl⟩:=ry;exact lt_str (uq I q rfl)
theorem Li:OpR X (compareOp .Is) (fun x y H Q=>y = .non/\Q (.bl (decide (x = .non))) H):=by
 intro pins s σ H x y v u Q I rx ry h;obtain ⟨rfl,q⟩:=h
 cases ry
 refine is_none_gen (uq I q ?_)
 cases x <;> first
  | (cases rx;rfl)
  | (obtain ⟨t,rfl⟩:=rx;rfl)
theorem GX:OpR X (compareOp .IsNot) (fun x y H Q=>y = .non/\Q (.bl (!decide (x = .non))) H):=by
 intro pins s σ H x y v u Q I rx ry h;obtain ⟨rfl,q⟩:=h
 cases ry
 refine isnot_none_gen (uq I q ?_)
 cases x <;> first
  | (cases rx;rfl)
  | (obtain ⟨t,rfl⟩:=rx;rfl)
theorem OpR.or {f:Value->Value->Sem Value} {r':R2} (h:OpR X f r) (h':OpR X f r'):OpR X f (fun x y H Q=>r x y H Q \/ r' x y H Q):=by
 intro pins s σ H x y v u Q I rx ry q
 rcases q with q | q
 ·exact h pins s σ H x y v u Q I rx ry q
 ·exact h' pins s σ H x y v u Q I rx ry q
theorem az (b:Expr) (h:op ≠ .In:=by decide) (h2:op ≠ .NotIn:=by decide):behindInMarks op b = false:=by
 have e1:(op == CmpOp.In) = false:=by cases op <;> first | rfl | exact absurd rfl h
 have e2:(op == CmpOp.NotIn) = false:=by cases op <;> first | rfl | exact absurd rfl h2
 cases b <;> simp [behindInMarks,e1,e2]
theorem GQ (ho:OpR X (compareOp op) r) (ha:PE X a ta) (hb:PE X b tb) (hm:behindInMarks op b = false):PE X (.Compare a [op] [b] pos) (Fs r ta tb):=by
 intro pins s σ H Q I h;exact wpAny_Compare1 (Mv ha hb I h fun v u s2 x y H2 I2 rx ry q=>ho pins s2 σ H2 x y v u Q I2 rx ry q) hm
def BV (t:TE):TT:=fun σ H Q=>t σ H fun x H'=>∃ k,x = .bl k/\Q k H'
theorem Gn (ho:OpR X (compareOp op) r) (ha:PE X a ta) (hb:PE X b tb) (hm:behindInMarks op b = false):PT X (.Compare a [op] [b] pos) (BV (Fs r ta tb)):=by
 intro pins s σ H Q I h;refine wpAny_isTrue_Compare1 (bw (ha pins s σ H _ I h) fun v s1 ⟨x,H1,I1,r1,q1⟩=>bw (hb pins s1 σ H1 _ I1 q1) fun u s2 ⟨y,H2,I2,r2,q2⟩ =>
  bw (ho pins s2 σ H2 x y v u _ I2 r1 r2 q2) fun c s3 ⟨z,H3,I3,r3,k,e,q3⟩=>?_) hm
 subst e
 cases r3
 exact wpAny_truthy_bool ⟨H3,I3,q3⟩
theorem tV:(sizeLine:Nat) < 2 ^ 63:=by rw [sizeLine_eq];decide
theorem yo:OpR X (binaryOp .Add) (fun x y H Q=>∃ i j,x = .str i/\y = .str j/\i.length + j.length <= sizeLine/\Q (.str (i ++ j)) H):=by
 intro pins s σ H x y v u Q I rx ry h;obtain ⟨i,j,rfl,rfl,hz,q⟩:=h;obtain ⟨t,rfl⟩:=rx;obtain ⟨t',rfl⟩:=ry;exact add_str (fun t' tk=>⟨.str (i ++ j),H,I.tok _,⟨_,rfl⟩,q⟩) hz
theorem vals1 {x:V} (r:Vals [x] us):∃ u,us = [u]/\RelV x u:=by
 cases r with
 | cons r1 r2=>cases r2;exact ⟨_,rfl,r1⟩
theorem vals2 {x:V} (r:Vals [x,y] us):∃ u w',us = [u,w']/\RelV x u/\RelV y w':=by
 cases r with
 | cons r1 r2 =>
  cases r2 with
  | cons r3 r4=>cases r4;exact ⟨_,_,rfl,r1,r3⟩
theorem Br (hc:X.calm = true):bq X (.builtin "max") (fun xs H Q=>∃ i j,xs = [.int i,.int j]/\Q (.int (if j > i then j else i)) H):=by
 intro pins s σ H xs us Q I r h;obtain ⟨i,j,rfl,q⟩:=h;obtain ⟨u,w',rfl,⟨t,rfl⟩,⟨t',rfl⟩⟩:=vals2 r;refine max_two_ints (I.ok.hd hc) fun h' tk k=>⟨_,H,I.kept k,?_,q⟩
 by_cases hj:j > i
 ·rw [if_pos hj,if_pos hj];exact ⟨_,rfl⟩
 ·rw [if_neg hj,if_neg hj];exact ⟨_,rfl⟩
theorem Bq (hc:X.calm = true):bq X (.builtin "min") (fun xs H Q=>∃ i j,xs = [.int i,.int j]/\Q (.int (if j < i then j else i)) H):=by
 intro pins s σ H xs us Q I r h;obtain ⟨i,j,rfl,q⟩:=h;obtain ⟨u,w',rfl,⟨t,rfl⟩,⟨t',rfl⟩⟩:=vals2 r;refine min_two_ints (I.ok.hd hc) fun h' tk k=>⟨_,H,I.kept k,?_,q⟩
 by_cases hj:j < i
 ·rw [if_pos hj,if_pos hj];exact ⟨_,rfl⟩
 ·rw [if_neg hj,if_neg hj];exact ⟨_,rfl⟩
theorem uw:bq X (.type "str") (fun xs H Q=>∃ i,xs = [.int i]/\i.natAbs.log2 < 1920/\Q (.str (toString i)) H):=by
 intro pins s σ H xs us Q I r h;obtain ⟨i,rfl,hz,q⟩:=h;obtain ⟨u,rfl,t,rfl⟩:=vals1 r;exact PySem.P.str_of_int hz ⟨.str _,H,I.tok _,⟨_,rfl⟩,q⟩
theorem EH:bq X (.builtin "ord") (fun xs H Q=>∃ x,xs = [.str x]/\x.length = 1/\Q (.int (x.cps.getD 0 0:Nat)) H):=by
 intro pins s σ H xs us Q I r h;obtain ⟨x,rfl,hz,q⟩:=h;obtain ⟨u,rfl,t,rfl⟩:=vals1 r;exact ord_of_one hz ⟨.int _,H,I.tok _,⟨_,rfl⟩,q⟩
def Pa (K:W.Frag) (x:V) (H:Hp) (n:Nat):Prop :=
 match x with
 | .str y=>y.length <= sizeLine/\n = y.length
 | .byt y=>y.size <= sizeLine/\n = y.size
 | .ref p=>(∃ xs,SqL K H p xs/\n = xs.length) \/ ∃ xs,SqT K H p xs/\n = xs.length
 | _=>False
theorem EI:bq X (.builtin "len") (fun xs H Q=>∃ x n,xs = [x]/\Pa X.K x H n/\Q (.int n) H):=by
 intro pins s σ H xs us Q I r h;obtain ⟨x,n,rfl,e,q⟩:=h;obtain ⟨u,rfl,rx⟩:=vals1 r;have hl:=tV;have hs:sizeLine = 16777216:=sizeLine_eq
 cases x with
 | str y =>
  obtain ⟨t,rfl⟩:=rx;obtain ⟨hy,e'⟩:y.length <= sizeLine/\n = y.length:=e;subst e';exact len_str (by omega) ⟨.int _,H,I.tok _,⟨_,rfl⟩,q⟩
 | byt y =>
  obtain ⟨t,rfl⟩:=rx;obtain ⟨hy,e'⟩:y.size <= sizeLine/\n = y.size:=e;subst e';exact W.len_bytes (by omega) ⟨.int _,H,I.tok _,⟨_,rfl⟩,q⟩
 | ref p =>
  cases rx
  have e':(∃ xs,SqL X.K H p xs/\n = xs.length) \/ ∃ xs,SqT X.K H p xs/\n = xs.length:=e
  rcases e' with ⟨xs,hx,e'⟩ | ⟨xs,hx,e'⟩
  ·subst e';obtain ⟨its,r',pl,hz⟩:=I.list hx;have hlen:=r'.length;exact Calls.call_len_list pl.isList (by simp only [List.size_toArray];omega) ⟨.int xs.length,H,I.tok _,⟨_,by simp only [List.size_toArray];rw [hlen]⟩,q⟩
  ·subst e';obtain ⟨its,r',pl,hz⟩:=I.tuple hx;have hlen:=r'.length;exact len_tuple pl (by simp only [List.size_toArray];omega) ⟨.int xs.length,H,I.tok _,⟨_,by simp only [List.size_toArray];rw [hlen]⟩,q⟩
 | _=>exact (show False from e).elim
end
structure ObjM (h:Heap) (x dx C:Addr) (mA:Str->Option Value):Prop where
 obj:h.get? x = some (W.instObj C dx)
 ns:h.Ns1 dx mA
 ne:dx ≠ x
theorem AM (n:h.Ns1 dx mA):∃ od,h.get? dx = some od/\∀ name,W.lookIn name od = some (mA name):=by
 obtain ⟨o,es,ep,ho,hd,hk,_,hm⟩:=n;refine ⟨o,ho,fun name=>?_⟩
 have e:=hm name;unfold nsFind findBy at e;rw [<- Array.find?_toList] at e;unfold W.lookIn;rw [hd];dsimp only
 split
 ·rename_i y q;rw [q] at e;exact congrArg some e
 ·rename_i q;rw [q] at e;have a:es.toList.any (·.refKey) = false:=by
   rw [List.any_eq_false];intro y hy;obtain ⟨z,t,ng⟩:=hk y (Array.mem_toList_iff.mp hy);simp [DictEntry.refKey,ng]
  have a':¬ es.toList.any (·.refKey) = true:=by rw [a];exact Bool.false_ne_true
  rw [if_neg a'];exact congrArg some e
theorem ObjM.look {x:Addr} (I:ObjM h x dx C mA):∃ od,W.InstAt h x (W.instObj C dx) C (some od)/\∀ name,W.lookIn name od = some (mA name) :=
 let ⟨od,ho,hl⟩:=AM I.ns
 ⟨od,⟨I.obj,rfl,rfl,ho⟩,hl⟩
section
variable {prog:Program} {E:Value->Shared->Prop} {x:Addr} {name:Str} {v:Value}
theorem get_map {expr : Bool} {Q : Value -> Shared -> Prop} (X : K.In s.heap) (I : ObjM s.heap x dx C mA) (hg : W.plainGet K C name = true) (hh : W.hasDictIn K C = true)
    (ha:W.findIn K (.ref C) name = some none) (hv:mA name = some v) (V7:W.handedIn v = true) (h:Q v { s with toks:=s.toks + 1 }) :
    wpAny (model prog w) A (getAttr (.ref x) name expr) Q E s:=by
 obtain ⟨od,J,hl⟩:=I.look;exact W.get_value X J (W.plainGet_of hg).1 (W.findObj_own hh ha rfl (by rw [hl,hv])) V7 h
theorem Em {Q : Value × List Value -> Shared -> Prop} (X : K.In s.heap) (I : ObjM s.heap x dx C mA) (hg : W.plainGet K C name = true)
    (hf:W.findIn K (.ref C) name = some (some (.ref f))) (ht:W.isFn K (.ref f) = true) (hv:mA name = none) (h:Q (.ref f,[.ref x]) s) :
    wpAny (model prog w) A (getMethod (.ref x) name pl) Q E s:=by
 obtain ⟨od,J,hl⟩:=I.look;exact W.method_fn X J (W.plainGet_of hg).1 (W.plainGet_of hg).2 hf (beq_iff_eq.mp ht) (by show (W.lookIn name od).map (·.isSome) = some false;rw [hl,hv];rfl) h
theorem FF {ns : List Str} {Q : Unit -> Shared -> Prop} (X : K.In s.heap) (I : ObjM s.heap x dx C mA)
    (hs:W.findIn K (.ref C) "__setattr__" = some (some (.builtin "object.__setattr__"))) (hp:W.plainOver K C = true) (ht:W.takerIn K C name = some none) (hh:W.hasDictIn K C = true)
    (hw:PySem.Within mA ns) (hsz:ns.length <= sizeLine)
    (h:∀ h',ObjM h' x dx C (fun y=>if y = name then some v else mA y)->Heap.SameBut dx s.heap h'->Q () { s with heap:=h',toks:=s.toks + 2 }) :
    wpAny (model prog w) A (setAttr (.ref x) name v) Q E s:=by
 obtain ⟨od,J,hl⟩:=I.look;refine W.set_plain X J hs (W.osa_open (s:={ s with toks:=s.toks + 1 }) (r:=none) X J hp ht fun b=>?_)
 obtain ⟨cd,hc,A'⟩:=W.any_some hh;have hx:s.heap.get? x = some ⟨.ref C,some dx,.plain,#[]⟩:=I.obj;refine wpAny_bind (wpAny_pure (wpAny_bind (wpAny_bind (wpAny_loadPart hx (wpAny_bind (W.Looks.here (s:={ s with toks:=s.toks + 1 }) (W.looks_clsIn X hc) ?_))))));rw [A'];refine wpAny_pure (a:=some dx) (wpAny_bind (wpAny_pure (wpAny_bind ?_)));refine wpAny_nsSet1 (s:={ s with toks:=s.toks + 1 }) I.ns fun h' Jy Tr=>?_
 obtain ⟨oD,esD,epD,Ww,WQ,WV⟩:=Jy.count (PySem.Within.cons name v hw);refine wpAny_bind (wpAny_lookBehind Ww (by rw [WQ];exact pastItsLine_dict (Nat.le_trans WV (by rw [List.length_cons];omega))) ?_);exact wpAny_pure (h _ ⟨(Tr.2 _ (Ne.symm I.ne)).trans I.obj,Jy,I.ne⟩ Tr)
theorem DW {R : Result -> Shared -> Prop} {vs : List Value} (X : K.In s.heap) (hm : W.makesIn K C = true)
    (hi:W.findIn K (.ref C) "__init__" = some (some (.ref f))) (hf:W.typeIn K (.ref f) = some (.type "function"))
    (h:codeAny (model prog w) (A.under (.builtin "type.__call__" ⟨.ref C :: vs,kw⟩)) (.call (.ref f) ⟨.ref (s.heap.objs.size + 1) :: vs,kw⟩) (W.InitBack (s.heap.objs.size + 1) R)
     { s with heap:=(s.heap.push W.emptyDict).push (W.instObj C s.heap.objs.size) }) :
    codeAny (model prog w) A (.call (.ref C) ⟨vs,kw⟩) R s:=by
 obtain ⟨hh,g,d,t,os⟩:=s;exact W.make_core (W.makes_of X hm) (W.looks_findIn X hi) (fun self=>W.bind_fn X self hf) (.inl rfl) h
theorem AK {R : Result -> Shared -> Prop} (X : K.In s.heap) (hm : W.makesIn K C = true)
    (hi:W.findIn K (.ref C) "__init__" = some (some (.builtin "object.__init__")))
    (hb:∀ self,W.Looks (model prog w) s.heap (bindSpecial (.builtin "object.__init__") self) (.builtin "object.__init__",[self]))
    (h:codeAny (model prog w) (A.under (.builtin "type.__call__" ⟨[.ref C],[]⟩)) (.call (.builtin "object.__init__") ⟨[.ref (s.heap.objs.size + 1)],[]⟩) (W.InitBack (s.heap.objs.size + 1) R)
     { s with heap:=(s.heap.push W.emptyDict).push (W.instObj C s.heap.objs.size) }) :
    codeAny (model prog w) A (.call (.ref C) ⟨[],[]⟩) R s:=by
 obtain ⟨hh,g,d,t,os⟩:=s;exact W.make_core (W.makes_of X hm) (W.looks_findIn X hi) hb (.inr ⟨rfl,rfl⟩) h
end
def iE (f:Str) (v:V):List (Str × V)->List (Str × V)
 | []=>[(f,v)]
 | (g,x) :: r=>if g = f then (g,v) :: r else (g,x) :: iE f v r
theorem mi (f g:Str) (v:V):∀ fs:List (Str × V),(iE f v fs).lookup g = if g = f then some v else fs.lookup g
 | []=>by
  show List.lookup g [(f,v)] = _
  by_cases h:g = f
  ·have hb:(g == f) = true:=beq_iff_eq.mpr h;simp only [List.lookup,hb,if_pos h]
  ·have hb:(g == f) = false:=beq_eq_false_iff_ne.mpr h;simp only [List.lookup,hb,if_neg h]
 | (k,x) :: r=>by
  have ih:=mi f g v r;rw [show iE f v ((k,x) :: r) = (if k = f then (k,v) :: r else (k,x) :: iE f v r) from rfl]
  by_cases hk:k = f
  ·rw [if_pos hk]
   by_cases h:g = k
   ·have hb:(g == k) = true:=beq_iff_eq.mpr h;simp only [List.lookup,hb,if_pos (h.trans hk)]
   ·have hb:(g == k) = false:=beq_eq_false_iff_ne.mpr h;simp only [List.lookup,hb,if_neg (fun e:g = f=>h (e.trans hk.symm))]
  ·rw [if_neg hk]
   by_cases h:g = k
   ·have hb:(g == k) = true:=beq_iff_eq.mpr h;simp only [List.lookup,hb,if_neg (fun e:g = f=>hk (h.symm.trans e))]
   ·have hb:(g == k) = false:=beq_eq_false_iff_ne.mpr h;simp only [List.lookup,hb];exact ih
theorem lI (f:Str) (v:V):∀ fs:List (Str × V),f ∈ (iE f v fs).map (·.1)/\∀ g,g ∈ fs.map (·.1)->g ∈ (iE f v fs).map (·.1)
 | []=>⟨by simp [iE],fun g h=>by simp at h⟩
 | (k,x) :: r=>by
  obtain ⟨i1,i2⟩:=lI f v r;rw [show iE f v ((k,x) :: r) = (if k = f then (k,v) :: r else (k,x) :: iE f v r) from rfl]
  by_cases hk:k = f
  ·rw [if_pos hk];subst hk;exact ⟨by simp,fun g h=>by simpa using h⟩
  ·rw [if_neg hk];refine ⟨?_,fun g h=>?_⟩
   ·rw [List.map_cons];exact List.mem_cons_of_mem _ i1
   ·rw [List.map_cons] at h ⊢
    rcases List.mem_cons.mp h with e | e
    ·exact List.mem_cons.mpr (.inl e)
    ·exact List.mem_cons_of_mem _ (i2 g e)
theorem mj (f:Str) (v:V):∀ fs:List (Str × V),(iE f v fs).length <= fs.length + 1
 | []=>by simp [iE]
 | (k,x) :: r=>by
  have ih:=mj f v r;rw [show iE f v ((k,x) :: r) = (if k = f then (k,v) :: r else (k,x) :: iE f v r) from rfl]
  by_cases hk:k = f
  ·rw [if_pos hk,List.length_cons,List.length_cons];omega
  ·rw [if_neg hk,List.length_cons,List.length_cons];omega
theorem RelO.some_of {o:Option Value} (r:RelO (some v) o):∃ u,o = some u/\RelV v u:=by
 cases o with
 | none=>exact (show False from r).elim
 | some u=>exact ⟨u,rfl,r⟩
theorem RelO.none_of {o:Option Value} (r:RelO none o):o = none:=by
 cases o with
 | none=>rfl
 | some u=>exact (show False from r).elim
theorem Be (r:RelV v u):W.handedIn u = true:=by
 cases v with
 | non=>cases (show u = Value.none from r);rfl
 | bl b=>cases (show u = Value.bool b from r);rfl
 | int i=>obtain ⟨t,e⟩:=(show ∃ t,u = Value.int i t from r);cases e;rfl
 | str x=>obtain ⟨t,e⟩:=(show ∃ t,u = Value.str x t from r);cases e;rfl
 | byt b=>obtain ⟨t,e⟩:=(show ∃ t,u = Value.bytes b t from r);cases e;rfl
 | flt b=>obtain ⟨t,e⟩:=(show ∃ t,u = Value.float b t from r);cases e;rfl
 | ref a=>cases (show u = Value.ref a from r);rfl
 | ty n=>cases (show u = Value.type n from r);rfl
section
variable {fs M5:List (Str × V)}
theorem nH (hok:HOk P w H h) (e:H a = some (.ins C dx fs)):∃ mA,ObjM h a dx C mA/\(∀ f,RelO (fs.lookup f) (mA f))/\PySem.Within mA (fs.map (·.1))/\fs.length <= 1000/\H dx = some (.own a):=by
 obtain ⟨d,z,ne,ob,mA,n,r,q⟩:=(show ObjOk P w H h a (.ins C dx fs) from hok a _ e);exact ⟨mA,⟨ob,n,ne⟩,r,q,z,d⟩
end
structure Cls (K:W.Frag) (C:Addr):Prop where
 pg:W.plainGet K C Str.empty = true
 hd:W.hasDictIn K C = true
 po:W.plainOver K C = true
 sa:W.findIn K (.ref C) "__setattr__" = some (some (.builtin "object.__setattr__"))
theorem Cls.get (c:Cls K C) (f:Str):W.plainGet K C f = true:=c.pg
def NoAttr (K:W.Frag) (C:Addr) (f:Str):Prop:=W.findIn K (.ref C) f = some none
theorem NoAttr.taker {f:Str} (n:NoAttr K C f):W.takerIn K C f = some none:=by
 unfold W.takerIn;rw [show W.findIn K (.ref C) f = some none from n]
 rfl
structure Meth (K:W.Frag) (C:Addr) (m:Str) (f:Addr):Prop where
 at_:W.findIn K (.ref C) m = some (some (.ref f))
 fn:W.isFn K (.ref f) = true
 kp:W.keepIn K (.ref f) = true
section
variable {fs:List (Str × V)} {f:Str} {E:Value->Shared->Prop}
theorem yB {b : Bool} {Q : Value -> Shared -> Prop} (I : Inv X pins σ H s) (e : H a = some (.ins C dx fs)) (c : Cls X.K C) (n : NoAttr X.K C f) (l : fs.lookup f = some v)
    (h:∀ u s',Inv X pins σ H s'->RelV v u->Q u s'):wpAny (model X.prog X.w) A (getAttr (.ref a) f b) Q E s:=by
 obtain ⟨mA,O,r,_,_,_⟩:=nH I.hok e;obtain ⟨u,hu,ru⟩:=RelO.some_of (v:=v) (o:=mA f) (by rw [<- l];exact r f);exact get_map I.kIn O (c.get f) c.hd n hu (Be ru) (h u _ (I.tok _) ru)
theorem oP {g : Addr} {Q : Value × List Value -> Shared -> Prop} (I : Inv X pins σ H s) (e : H a = some (.ins C dx fs)) (c : Cls X.K C) (k : Meth X.K C m g) (l : fs.lookup m = none)
    (h:Q (.ref g,[.ref a]) s):wpAny (model X.prog X.w) A (getMethod (.ref a) m pl) Q E s:=by
 obtain ⟨mA,O,r,_,_,_⟩:=nH I.hok e;have hn:mA m = none:=RelO.none_of (by rw [<- l];exact r m);exact Em I.kIn O (c.get m) k.at_ k.fn hn h
theorem xY {Q : Unit -> Shared -> Prop} (I : Inv X pins σ H s) (e : H a = some (.ins C dx fs)) (c : Cls X.K C) (n : NoAttr X.K C f) (hl : fs.length < 1000) (ry : RelV y u)
    (h:∀ s',Inv X pins σ (upd H a (.ins C dx (iE f y fs))) s'->Q () s'):wpAny (model X.prog X.w) A (setAttr (.ref a) f u) Q E s:=by
 obtain ⟨mA,O,r,wi,_,ho⟩:=nH I.hok e;have hz:(fs.map (·.1)).length <= sizeLine:=by rw [List.length_map,sizeLine_eq];omega
 refine FF I.kIn O c.sa c.po n.taker c.hd wi hz fun h' O' sb=>h _ ?_
 have hd:∃ o,h'.get? dx = some o:=let ⟨o,_,_,e',_⟩:=O'.ns;⟨o,e'⟩
 refine I.write (x:=a) (e:=dx) (by rw [e];exact True.intro) (.inr ho) (fun b q hb z=>(sb.2 b hb).trans z) hd ?_
 refine ⟨by rw [aj O.ne];exact ho,?_,O.ne,O'.obj,_,O'.ns,fun g=>?_,fun g hg=>?_⟩
 ·have:=mj f y fs;omega
 ·show RelO ((iE f y fs).lookup g) (if g = f then some u else mA g)
  rw [mi]
  by_cases q:g = f
  ·rw [if_pos q,if_pos q];exact ry
  ·rw [if_neg q,if_neg q];exact r g
 ·by_cases q:g = f
  ·rw [q];exact (lI f y fs).1
  ·refine (lI f y fs).2 g (wi g fun z=>hg ?_);show (if g = f then some u else mA g) = none;rw [if_neg q];exact z
theorem Inv.made (I : Inv X pins σ H s) : Inv X pins σ (upd (upd H s.heap.objs.size (.own (s.heap.objs.size + 1))) (s.heap.objs.size + 1) (.ins C s.heap.objs.size []))
    { s with heap:=(s.heap.push W.emptyDict).push (W.instObj C s.heap.objs.size) }:=by
 have e1:(s.heap.push W.emptyDict).get? s.heap.objs.size = some W.emptyDict:=Heap.get?_push_size s.heap rfl;have e2:((s.heap.push W.emptyDict).push (W.instObj C s.heap.objs.size)).get? (s.heap.objs.size + 1) = some (W.instObj C s.heap.objs.size):=by
  have:=Heap.get?_push_size (s.heap.push W.emptyDict) (o:=W.instObj C s.heap.objs.size) rfl
  rwa [Heap.size_push] at this
 have e3:(s.heap.push W.emptyDict).Ns s.heap.objs.size (fun _=>none):=⟨W.emptyDict,#[],_,e1,rfl,(fun e he=>absurd he (by simp)),fun _=>rfl⟩
 have I1:=I.laid (a:=s.heap.objs.size) (o:=.own (s.heap.objs.size + 1)) (h':=s.heap.push W.emptyDict) (t':=s.toks) (fun b u q=>Heap.get?_push_of_some _ q) (Nat.le_refl _) ⟨_,e1⟩
 refine I1.laid (a:=s.heap.objs.size + 1) (o:=.ins C s.heap.objs.size []) (t':=s.toks) (fun b u q=>Heap.get?_push_of_some _ q) (Nat.le_of_eq (Heap.size_push _ _)) ?_;have ne:s.heap.objs.size ≠ s.heap.objs.size + 1:=Nat.ne_of_lt (Nat.lt_succ_self _);refine ⟨by rw [aj ne,ak],Nat.zero_le _,ne,e2,fun _=>none,(Heap.Ns1.of_empty e3).at fun o q=>Heap.get?_push_of_some _ q,fun _=>True.intro,fun y hy=>absurd rfl hy⟩
theorem IE {prog : Program} {env : Env} {f : Str} {Q : Value -> Shared -> Prop} (hb : attributeBase e f env (eval e env) = eval e env)
    (h:wpAny (model prog w) A (eval e env) (fun o s₁=>wpAny (model prog w) A (getAttr o f true) Q E s₁) E s):wpAny (model prog w) A (eval (.Attribute e f pos) env) Q E s :=
 Attribute_any_ h (by rw [arm_eval_Attribute,hb])
end
def JU (K:W.Frag) (ta:TE) (f:Str):TE:=fun σ H Q=>ta σ H fun x H1=>∃ a C dx fs v,x = .ref a/\H1 a = some (.ins C dx fs)/\Cls K C/\NoAttr K C f/\fs.lookup f = some v/\Q v H1
def Kb (K:W.Frag) (ta tv:TE) (f:Str):TS:=fun D σ H=>tv σ H fun y H1=>ta σ H1 fun x H2=>∃ a C dx fs,x = .ref a/\H2 a = some (.ins C dx fs)/\Cls K C/\NoAttr K C f/\fs.length < 1000 /\
 D.nx σ (upd H2 a (.ins C dx (iE f y fs)))
section
variable {o value:Expr} {f:Str} {pos' Qe:Pos} {tv:TE}
theorem Lb (he:PE X e ta) (hb:attributeBase e f X.env (eval e X.env) = eval e X.env):PE X (.Attribute e f pos) (JU X.K ta f):=by
 intro pins s σ H Q I h;refine IE hb (bw (he pins s σ H _ I h) fun u s1 ⟨x,H1,I1,rx,a,C,dx,fs,v,ex,ea,c,n,l,q⟩=>?_)
 subst ex;obtain rfl:u = Value.ref a:=rx;exact yB I1 ea c n l fun u' s2 I2 ru=>⟨v,H1,I2,ru,q⟩
theorem KZ (ha:PE X o ta) (hv:PE X value tv) (hs:swapsWith value (some (.Attribute o f pos')) pos.line X.env = pure false):PS X (.Assign [.Attribute o f pos'] value pos) (Kb X.K ta tv f):=by
 intro pins s σ H D I h;refine plainObj_wpAny_Assign_Attribute (bw (hv pins s σ H _ I h) fun u s1 ⟨y,H1,I1,ry,q⟩=>bw (ha pins s1 σ H1 _ I1 q) fun ov s2 ⟨x,H2,I2,rx,a,C,dx,fs,ex,ea,c,n,l,q2⟩=>?_) hs
 subst ex;obtain rfl:ov = Value.ref a:=rx;exact xY I2 ea c n l ry fun s3 I3=>⟨σ,_,I3,q2⟩
end
section
variable {E:Value->Shared->Prop} {Q:Value->Shared->Prop} {c:Value} {b:Bool}
inductive j4 (K:W.Frag) (H:Hp):V->Value->Prop where
 | non:j4 K H .non (.type "NoneType")
 | bl (x:Bool):j4 K H (.bl x) (.type "bool")
 | int (i:Int):j4 K H (.int i) (.type "int")
 | str (x:Str):j4 K H (.str x) (.type "str")
 | flt (x:UInt64):j4 K H (.flt x) (.type "float")
 | lst {a:Addr} {xs:List V} (e:H a = some (.lst xs)):j4 K H (.ref a) (.type "list")
 | frz {a:Addr} {o:Obj} {xs:List V} (e:H a = some (.frz o (.lst xs))):j4 K H (.ref a) (.type "list")
 | tup {a:Addr} {xs:List V} (e:H a = some (.tup xs)):j4 K H (.ref a) (.type "tuple")
 | dK {a:Addr} {kvs:List (Key × V)} (e:H a = some (.dK kvs)):j4 K H (.ref a) (.type "dict")
 | dT {a:Addr} {kvs:List (List Key × V)} (e:H a = some (.dT kvs)):j4 K H (.ref a) (.type "dict")
 | ins {a C dx : Addr} {fs : List (Str × V)} (e : H a = some (.ins C dx fs)) (cl : Cls K C) (ha : W.findIn K (.ref C) "__class__" = some (some (.builtin "object.__class__")))
     (hn:W.specialIn K (.builtin "object.__class__") "__get__" = some (some (.builtin "getset_descriptor.__get__"))) (Tn:W.takesIn K (.builtin "object.__class__") = some true)
     (hm:W.mroIn K C (.type "object") = some true):j4 K H (.ref a) (.ref C)
theorem AW {x : V} {t : Value} (I : Inv X pins σ H s) (rx : RelV x u) (ty : j4 X.K H x t) (e : W.kitOne X.K t c = some b) (h : ∀ tk, Q (.bool b) { s with toks := tk }) :
    wpAny (model X.prog X.w) A (call (.builtin "isinstance") [u,c]) Q E s:=by
 cases ty with
 | non=>cases (show u = Value.none from rx);exact W.kia_one W.kitx_none I.kIn True.intro e (fun z=>nomatch z) h
 | bl y=>cases (show u = Value.bool y from rx);exact W.kia_one W.kitx_bool I.kIn True.intro e (fun z=>nomatch z) h
 | int i=>obtain ⟨t,q⟩:=(show ∃ t,u = Value.int i t from rx);cases q;exact W.kia_one W.kitx_int I.kIn True.intro e (fun z=>nomatch z) h
 | str y=>obtain ⟨t,q⟩:=(show ∃ t,u = Value.str y t from rx);cases q;exact W.kia_one W.kitx_str I.kIn True.intro e (fun z=>nomatch z) h
 | flt y=>obtain ⟨t,q⟩:=(show ∃ t,u = Value.float y t from rx);cases q;exact W.kia_one W.kitx_float I.kIn True.intro e (fun z=>nomatch z) h
 | @lst a xs ea =>
  cases (show u = Value.ref a from rx)
  obtain ⟨_,_,n,_,h1⟩:=(show ObjOk X.prog X.w H s.heap a (.lst xs) from I.hok a _ ea);exact W.kia_one W.kitx_list I.kIn ⟨_,h1,rfl⟩ e (fun z=>nomatch z) h
 | @frz a ob xs ea =>
  cases (show u = Value.ref a from rx)
  obtain ⟨_,_,_,n,_,h1⟩:=(show ObjOk X.prog X.w H s.heap a (.frz ob (.lst xs)) from I.hok a _ ea);exact W.kia_one W.kitx_list I.kIn ⟨_,h1,rfl⟩ e (fun z=>nomatch z) h
 | @tup a xs ea =>
  cases (show u = Value.ref a from rx)
  obtain ⟨_,_,_,p⟩:=(show ObjOk X.prog X.w H s.heap a (.tup xs) from I.hok a _ ea);obtain ⟨o,h1,h2,_⟩:=p;exact W.kia_one W.kitx_tuple I.kIn ⟨o,h1,h2⟩ e (fun z=>nomatch z) h
 | @dK a kvs ea =>
  cases (show u = Value.ref a from rx)
  obtain ⟨_,_,vs,_,p⟩:=(show ObjOk X.prog X.w H s.heap a (.dK kvs) from I.hok a _ ea);obtain ⟨o,es,ep,h1,h2,_⟩:=p;exact W.kia_one W.kitx_dict I.kIn ⟨o,h1,h2.1⟩ e (fun z=>nomatch z) h
 | @dT a kvs ea =>
  cases (show u = Value.ref a from rx)
  obtain ⟨_,_,xs,_,o,es,ep,h1,h2,_⟩:=(show ObjOk X.prog X.w H s.heap a (.dT kvs) from I.hok a _ ea);exact W.kia_one W.kitx_dict I.kIn ⟨o,h1,h2.1⟩ e (fun z=>nomatch z) h
 | @ins a C dx fs ea cl ha hn Tn hm =>
  cases (show u = Value.ref a from rx)
  obtain ⟨mA,O,_⟩:=nH I.hok ea;obtain ⟨od,J,_⟩:=O.look;exact W.kia_one (W.kitx_own (cl.get _) cl.hd ha hn Tn hm) I.kIn J e (fun z=>nomatch z) h
end
structure Room (k:Nat) (A:Around):Prop where
 hd:A.handled = none
 dp:A.depth + 3 * k + 5 < recursionLimit
 un:A.units + 16 * k + 200 < cLine
theorem Room.mono (r:Room k A) (h:j <= k):Room j A:=⟨r.hd,by have:=r.dp;omega,by have:=r.un;omega⟩
theorem Room.deeper (r:Room (k + 1) A) (env:Env):Room k (A.deeper env) :=
 ⟨r.hd,by have:=r.dp;show A.depth + 1 + 3 * k + 5 < _;omega,by have:=r.un;show A.units + 3 + 16 * k + 200 < _;omega⟩
theorem Room.in1 (r:Room (k + 1) A):Room k A.in1 :=
 ⟨r.hd,by have:=r.dp;show A.depth + 3 * k + 5 < _;omega,by have:=r.un;show A.units + 1 + 16 * k + 200 < _;omega⟩
theorem yx:(A.under (.builtin "type.__call__" ⟨.ref C :: us,kw⟩)).depth = A.depth + 1:=by
 first | rfl | simp [Around.under,Code.weight,Code.isCreation,Code.isGuard,Code.isCaller,Code.frames,Code.isFrame,guardIds]
theorem yw:(A.under (.builtin "type.__call__" ⟨.ref C :: us,kw⟩)).units = A.units + 1:=by
 first | rfl | simp [Around.under,Code.cUnits,Code.frames,Code.isFrame]
theorem Room.make (r:Room (k + 1) A) (C:Addr) (us:List Value) (kw:List (Str × Value)):Room k (A.under (.builtin "type.__call__" ⟨.ref C :: us,kw⟩)) :=
 ⟨r.hd,by have:=r.dp;rw [yx];omega,by have:=r.un;rw [yw];omega⟩
theorem Room.depth (r:Room k A):A.depth < recursionLimit:=by have:=r.dp;omega
theorem Room.units (r:Room k A):A.units + 64 < cLine:=by have:=r.un;omega
def gy:TA:=fun _ H Q=>Q [] H
def cG (ta:TE) (tr:TA):TA:=fun σ H Q=>ta σ H fun x H1=>tr σ H1 fun xs H2=>Q (x :: xs) H2
section
theorem Le:PA X [] gy:=fun _ _ _ _ H Q I h=>Calls.spliced_nil ⟨[],H,I,.nil,h⟩
theorem GV (ha:PE X e te) (hr:PA X es t) (hs:starEach (e :: es) X.env = (false,eval e X.env) :: starEach es X.env:=by rfl):PA X (e :: es) (cG te t):=by
 intro pos pins s σ H Q I h;rw [hs];show wpAny _ _ (spliced ((false,eval e X.env) :: backTo pos (starEach es X.env))) _ _ s;refine Calls.spliced_cons (bw (ha pins s σ H _ I h) fun u s1 ⟨x,H1,I1,r1,q1⟩=>?_)
 exact bw (hr pos pins s1 σ H1 _ I1 q1) fun us s2 ⟨xs,H2,I2,r2,q2⟩=>⟨x :: xs,H2,I2,.cons r1 r2,q2⟩
end
abbrev Sp:=List V->Hp->VK->XK->Prop
variable {sp:Sp}
abbrev E9:=List Env->Hp->Shared->XK->Value->Shared->Prop
variable {CX:E9}
structure Env0 (P:Program) (w:World) (K:W.Frag) (mg:Str->Option Value) (base:Heap) (A:Around) (outer:List Env) (s:Shared) (H:Hp):Prop where
 frames:A.frames = some outer
 mod:Mod K mg base
 bs:∀ b o,base.get? b = some o->s.heap.get? b = some o/\H b = none
 bsz:base.objs.size <= s.heap.objs.size
 funs:s.heap.FunFrames base outer
 frf:∀ b ∈ rT outer,H b = none
 hok:HOk P w H s.heap
 bare:AllBare s.gens
def CE (outer:List Env) (P:Program) (w:World) (H:Hp) (s:Shared) (Q:VK) (u:Value) (s':Shared):Prop :=
 ∃ v H',s'.os = s.os/\AllBare s'.gens/\Un (rT outer) [] H H' s.heap s'.heap/\HOk P w H' s'.heap/\RelV v u/\Q v H'
def CR (CX:E9) (outer:List Env) (P:Program) (w:World) (H:Hp) (s:Shared) (Q:VK) (E:XK) (r:Result) (s':Shared):Prop :=
 match r with
 | .ok (.ret u)=>CE outer P w H s Q u s'
 | .ok _=>False
 | .error e=>CX outer H s E e s'
structure FnOk (P:Program) (w:World) (K:W.Frag) (mg:Str->Option Value) (base:Heap) (CX:E9) (k:Nat) (f:Addr) (fd:FuncData) (ps:List Str) (sp:Sp):Prop where
 len:∀ vs H Q E,sp vs H Q E->vs.length = ps.length
 run:∀ (A:Around) (outer:List Env) (s:Shared) (H:Hp) (args:Args) (us:List Value) (vs:List V) (Q:VK) (E:XK),Room k A->Env0 P w K mg base A outer s H->BindsTo s fd args (ps.zip us)->Vals vs us->sp vs H Q E ->
  codeAny (model P w) A (.call (.ref f) args) (CR CX outer P w H s Q E) s
theorem FnOk.mono (F : FnOk P w K mg base CX j f fd ps sp) (h : j <= k) :
    FnOk P w K mg base CX k f fd ps sp:=⟨F.len,fun A outer s H args us vs Q E hr=>F.run A outer s H args us vs Q E (hr.mono h)⟩
theorem Env0.make {outer : List Env} (e : Env0 P w K mg base A outer s H) (C : Addr) (us : List Value) (kw : List (Str × Value)) :
    Env0 P w K mg base (A.under (.builtin "type.__call__" ⟨.ref C :: us,kw⟩)) outer s H:=⟨by first | exact e.frames | (simpa [Around.under,Code.envs,Code.isFrame,pushEnvs] using e.frames),e.mod,e.bs,e.bsz,e.funs,e.frf,e.hok,e.bare⟩
section
theorem Inv.env0 (I:Inv X pins σ H s):Env0 X.prog X.w X.K X.mg X.base X.A X.stack s H :=
 ⟨I.ok.frames,I.ok.mod,I.bs,Nat.le_trans I.ok.bsz I.sz,I.stack,I.stkFree,I.hok,I.bare⟩
theorem Inv.after (I:Inv X pins σ H s) (h:CE X.stack X.prog X.w H s Q u s'):EP X pins σ Q u s':=by
 obtain ⟨v,H',os,bare,un,hok,r,q⟩:=h;obtain ⟨hh,g,d,t,QC⟩:=s';obtain rfl:QC = s.os:=os;exact ⟨v,H',I.call (h':=hh) (g':=g) (d':=d) (t':=t) (ch:=[]) un hok bare (fun b z=>absurd z (by simp)),r,q⟩
end
def l9 (sp:Sp) (iz:List V) (E:XK) (t:TA):TE:=fun σ H Q=>t σ H fun vs H1=>sp (vs ++ iz) H1 Q E
def dm (C:Addr) (m:Str) (sp:Sp) (iz:List V) (E:XK) (ta:TE) (t:TA):TE:=fun σ H Q=>ta σ H fun x H1=>∃ a dx fs,x = .ref a/\H1 a = some (.ins C dx fs)/\fs.lookup m = none /\
 t σ H1 fun vs H2=>sp (x :: (vs ++ iz)) H2 Q E
def vf (C:Addr) (sp:Sp) (iz:List V) (E:XK) (t:TA):TE:=fun σ H Q=>t σ H fun vs H1=>∀ x dx,H1 x = none->H1 dx = none->dx ≠ x ->
 sp (.ref x :: (vs ++ iz)) (upd (upd H1 dx (.own x)) x (.ins C dx [])) (fun v H2=>v = .non/\Q (.ref x) H2) E
def Binds (K:W.Frag) (fd:FuncData) (ps:List Str) (ds:List Value):Prop :=
 ∀ (s:Shared) (us:List Value),K.In s.heap->(us ++ ds).length = ps.length->BindsTo s fd ⟨us,[]⟩ (ps.zip (us ++ ds))
theorem Binds.all (h:∀ us:List Value,us.length = ps.length->bindArgs fd ⟨us,[]⟩ = pure (ps.zip us)):Binds K fd ps []:=fun s us _ hl=>by
 rw [List.append_nil] at hl ⊢;exact .of_eq (h us hl)
def Passes (CX:E9) (X:Cx) (E:XK):Prop:=∀ (pins:List (Addr × Obj)) (σ:St) (H:Hp) (s:Shared) (e:Value) (s':Shared),Inv X pins σ H s->CX X.stack H s E e s'->X.xe e s'
section
variable {iz:List V} {ds:List Value} {apos:Pos} {o:Expr}
theorem x8 (F : FnOk X.prog X.w X.K X.mg X.base CX k f fd ps sp) (hr : Room k X.A) (hb : Binds X.K fd ps ds) (hd : Vals iz ds) (hx : Passes CX X E)
    (I:Inv X pins σ H s) (r:Vals vs us) (h:sp (vs ++ iz) H Q E):wpAny (model X.prog X.w) X.A (call (.ref f) us) (EP X pins σ Q) X.xe s:=by
 have r2:Vals (vs ++ iz) (us ++ ds):=r.append hd;have hl:(us ++ ds).length = ps.length:=by rw [<- r2.length];exact F.len _ _ _ _ h
 refine wpAny_call (codeAny_mono (F.run X.A X.stack s H ⟨us,[]⟩ (us ++ ds) (vs ++ iz) Q E hr I.env0 (hb s us I.kIn hl) r2 h) fun r s' hq=>?_)
 cases r with
 | error e=>exact hx pins σ H s e s' I hq
 | ok fl =>
  cases fl with
  | ret u=>exact I.after hq
  | next=>exact False.elim hq
  | brk=>exact False.elim hq
  | cont=>exact False.elim hq
theorem zg (F : FnOk X.prog X.w X.K X.mg X.base CX k f fd ps sp) (hr : Room k X.A) (hg : Gl X x) (hm : X.mg x = some (.ref f)) (hk : W.keepIn X.K (.ref f) = true) (hb : Binds X.K fd ps ds) (hd : Vals iz ds) (hx : Passes CX X E)
    (ha:PA X (e :: es) t) (iw:(x == ("__debug__":Str)) = false:=by decide) (he:starEach (e :: es) X.env = (false,eval e X.env) :: starEach es X.env:=by rfl) (lL:(backTo pos (starEach es X.env)).any (·.1) = false:=by rfl) :
    PE X (.Call (.Name x p) (e :: es) [] pos) (l9 sp iz E t):=by
 intro pins s σ H Q I h;refine wpAny_Call_Name_kw (kG I hg hm ?_ iw);refine W.callWith_K (h₀:=X.base) I.ok.mod.kin hk (bw (ha pos pins s σ H _ I h) fun us s1 ⟨vs,H1,I1,r,q⟩=>⟨I1.kIn,?_⟩) he lL
 exact x8 F hr hb hd hx I1 r q
theorem GJ {pl : Sem Bool} (he : PE X o ta) (c : Cls X.K C) (hm : Meth X.K C m f) (F : FnOk X.prog X.w X.K X.mg X.base CX k f fd ps sp) (hr : Room k X.A) (hb : Binds X.K fd ps ds) (hd : Vals iz ds) (hx : Passes CX X E) (ha : PA X (e :: es) t)
    (xC:starEach (e :: es) X.env = (false,eval e X.env) :: starEach es X.env:=by rfl) (lL:(backTo pos (starEach es X.env)).any (·.1) = false:=by rfl)
    (ht:eval (.Call (.Attribute o m apos) (e :: es) [] pos) X.env = (do
     let ov <- eval o X.env
     standAt apos.atName
     let (f,first) <- holding [ov] (getMethod ov m pl)
     callWith pos f first (backTo pos (starEach (e :: es) X.env)) (backToKw pos (keywordEach [] X.env))):=by rfl) :
    PE X (.Call (.Attribute o m apos) (e :: es) [] pos) (dm C m sp iz E ta t):=by
 intro pins s σ H Q I h;refine W.methodCall_KW (pl:=pl) (bw (he pins s σ H _ I h) fun u s1 ⟨x,H1,I1,rx,a,dx,fs,ex,ea,l,q⟩=>?_) ht
 subst ex;obtain rfl:u = Value.ref a:=rx;refine oP I1 ea c hm l ?_;refine W.callWith_K (first:=[.ref a]) (h₀:=X.base) I.ok.mod.kin hm.kp (bw (ha pos pins s1 σ H1 _ I1 q) fun us s2 ⟨vs,H2,I2,r,q2⟩=>⟨I2.kIn,?_⟩) xC lL
 exact x8 (us:=.ref a :: us) (vs:=.ref a :: vs) F hr hb hd hx I2 (.cons rfl r) q2
theorem Dz (he : PE X o ta) (c : Cls X.K C) (hm : Meth X.K C m f) (F : FnOk X.prog X.w X.K X.mg X.base CX k f fd ps sp) (hr : Room k X.A) (hb : Binds X.K fd ps ds) (hd : Vals iz ds) (hx : Passes CX X E)
    (ht:eval (.Call (.Attribute o m apos) [] [] pos) X.env = (do
     let ov <- eval o X.env
     standAt apos.atName
     let (f,first) <- holding [ov] (getMethod ov m pl)
     callWith pos f first (backTo pos (starEach [] X.env)) (backToKw pos (keywordEach [] X.env))):=by rfl) :
    PE X (.Call (.Attribute o m apos) [] [] pos) (dm C m sp iz E ta gy):=by
 intro pins s σ H Q I h;refine W.methodCall_KW (pl:=pl) (bw (he pins s σ H _ I h) fun u s1 ⟨x,H1,I1,rx,a,dx,fs,ex,ea,l,q⟩=>?_) ht
 subst ex;obtain rfl:u = Value.ref a:=rx;refine oP I1 ea c hm l ?_;exact W.callWith_K0 (first:=[.ref a]) I1.kIn hm.kp (x8 (us:=[.ref a]) (vs:=[.ref a]) F hr hb hd hx I1 (.cons rfl .nil) q)
structure Mk (K:W.Frag) (C f:Addr):Prop where
 makes:W.makesIn K C = true
 init:W.findIn K (.ref C) "__init__" = some (some (.ref f))
 fn:W.isFn K (.ref f) = true
 kp:W.keepIn K (.ref C) = true
theorem vy (M : Mk X.K C f) (F : FnOk X.prog X.w X.K X.mg X.base CX k f fd ps sp) (hr : Room (k + 1) X.A) (hb : Binds X.K fd ps ds) (hd : Vals iz ds)
    (hx:Passes CX X E) (I:Inv X pins σ H s) (r:Vals vs us)
    (h:∀ x dx,H x = none->H dx = none->dx ≠ x->sp (.ref x :: (vs ++ iz)) (upd (upd H dx (.own x)) x (.ins C dx [])) (fun v H2=>v = .non/\Q (.ref x) H2) E) :
    wpAny (model X.prog X.w) X.A (call (.ref C) us) (EP X pins σ Q) X.xe s:=by
 have hq:=h (s.heap.objs.size + 1) s.heap.objs.size (I.hok.fresh (Nat.le_succ _)) (I.hok.fresh (Nat.le_refl _)) (Nat.ne_of_lt (Nat.lt_succ_self _));have I2:=Inv.made (C:=C) I;have r2:Vals (V.ref (s.heap.objs.size + 1) :: (vs ++ iz)) (Value.ref (s.heap.objs.size + 1) :: (us ++ ds)):=.cons rfl (r.append hd);have hl:(Value.ref (s.heap.objs.size + 1) :: us ++ ds).length = ps.length:=by
  have e:=r2.length;rw [F.len _ _ _ _ hq] at e;exact e.symm
 refine wpAny_call (DW (f:=f) I.kIn M.makes M.init (beq_iff_eq.mp M.fn) (codeAny_mono (F.run _ X.stack _ _ ⟨Value.ref (s.heap.objs.size + 1) :: us,[]⟩ (Value.ref (s.heap.objs.size + 1) :: (us ++ ds)) _ _ E (hr.make C us [])
  (I2.env0.make C us []) (hb _ (Value.ref (s.heap.objs.size + 1) :: us) I2.kIn hl) r2 hq) fun r s' nI=>?_))
 cases r with
 | error e=>exact hx pins σ _ _ e s' I2 nI
 | ok fl =>
  cases fl with
  | ret u =>
   obtain ⟨v,H',I3,rv,ev,q3⟩:=I2.after nI;subst ev;exact ⟨rv,⟨V.ref (s.heap.objs.size + 1),H',I3,rfl,q3⟩⟩
  | next=>exact False.elim nI
  | brk=>exact False.elim nI
  | cont=>exact False.elim nI
theorem GK (M : Mk X.K C f) (F : FnOk X.prog X.w X.K X.mg X.base CX k f fd ps sp) (hr : Room (k + 1) X.A) (hg : Gl X x) (hm : X.mg x = some (.ref C)) (hb : Binds X.K fd ps ds) (hd : Vals iz ds) (hx : Passes CX X E)
    (ha:PA X (e :: es) t) (iw:(x == ("__debug__":Str)) = false:=by decide) (he:starEach (e :: es) X.env = (false,eval e X.env) :: starEach es X.env:=by rfl) (lL:(backTo pos (starEach es X.env)).any (·.1) = false:=by rfl) :
    PE X (.Call (.Name x p) (e :: es) [] pos) (vf C sp iz E t):=by
 intro pins s σ H Q I h;refine wpAny_Call_Name_kw (kG I hg hm ?_ iw);refine W.callWith_K (h₀:=X.base) I.ok.mod.kin M.kp (bw (ha pos pins s σ H _ I h) fun us s1 ⟨vs,H1,I1,r,q⟩=>⟨I1.kIn,?_⟩) he lL
 exact vy M F hr hb hd hx I1 r q
theorem DA (M : Mk X.K C f) (F : FnOk X.prog X.w X.K X.mg X.base CX k f fd ps sp) (hr : Room (k + 1) X.A) (hg : Gl X x) (hm : X.mg x = some (.ref C)) (hb : Binds X.K fd ps ds) (hd : Vals iz ds) (hx : Passes CX X E)
    (iw:(x == ("__debug__":Str)) = false:=by decide):PE X (.Call (.Name x p) [] [] pos) (vf C sp iz E gy):=by
 intro pins s σ H Q I h;refine wpAny_Call_Name_kw (kG I hg hm ?_ iw);exact W.callWith_K0 I.kIn M.kp (vy (us:=[]) M F hr hb hd hx I .nil h)
end
def PK (X:Cx) (NZ:List Keyword) (t:TA):Prop :=
 ∀ (pos:Pos) (pins:List (Addr × Obj)) (s:Shared) (σ:St) (H:Hp) (Q:List V->Hp->Prop),Inv X pins σ H s->t σ H Q->wpAny (model X.prog X.w) X.A (evalAll ((backToKw pos (keywordEach NZ X.env)).map (·.2))) (AP X pins σ Q) X.xe s
section
variable {ks:List Str} {apos kpos:Pos} {o:Expr} {NZ:List Keyword} {tk:TA} {nm:Option Str}
theorem K1:PK X [] gy:=fun _ _ _ _ H Q I h=>wpAny_evalAll_nil ⟨[],H,I,.nil,h⟩
theorem Gy (ha:PE X e te) (hr:PK X NZ t):PK X (⟨nm,e,kpos⟩ :: NZ) (cG te t):=by
 intro pos pins s σ H Q I h;show wpAny _ _ (evalAll ((do let v <- eval e X.env;standAt pos;pure v) :: (backToKw pos (keywordEach NZ X.env)).map (·.2))) _ _ s;refine wpAny_evalAll_cons (wpAny_bind (bw (ha pins s σ H _ I h) fun u s1 ⟨x,H1,I1,r1,q1⟩=>wpAny_bind (wpAny_standAt (wpAny_pure ?_))))
 exact bw (hr pos pins s1 σ H1 _ I1 q1) fun us s2 ⟨xs,H2,I2,r2,q2⟩=>⟨x :: xs,H2,I2,.cons r1 r2,q2⟩
variable {g:List Value->List Value->List Value} {gV:List V->List V->List V}
end
structure ao (N P:List Str) (sc:Scope):Prop where
 kind:sc.kind = .function
 co:sc.isCoroutine = false
 gen:sc.isGenerator = false
 nd:N.Nodup
 pre:N.take P.length = P
 par:∀ x ∈ P,sc.names.lookup x = some .local \/ sc.names.lookup x = some .cell
 nofree:∀ y ∈ sc.names,y.2 ≠ .free
theorem su {kindOf:Str->Option NameKind} {x:Str}:∀ {binds:List (Str × Value)} {m:Str->Option Value},(∀ v,(x,v) ∉ binds)->bindL kindOf binds m x = m x
 | [],_,_=>rfl
 | (n,v) :: r,m,h=>by
  unfold bindL;rw [su fun w hw=>h w (List.mem_cons_of_mem _ hw)]
  split
  ·have:x ≠ n:=by rintro rfl;exact h v List.mem_cons_self
   simp [this]
  ·rfl
theorem sI {kindOf:Str->Option NameKind} {x:Str}:∀ {binds:List (Str × Value)} {m:Str->Option Value},(∀ v,(x,v) ∉ binds)->bindC kindOf binds m x = m x
 | [],_,_=>rfl
 | (n,v) :: r,m,h=>by
  unfold bindC;rw [sI fun w hw=>h w (List.mem_cons_of_mem _ hw)]
  split
  ·rfl
  ·have:x ≠ n:=by rintro rfl;exact h v List.mem_cons_self
   simp [this]
theorem sy {v : Value} : ∀ {P : List Str} {vs : List Value} {i : Nat} {m : Str -> Option Value}, P.Nodup -> P[i]? = some x -> vs[i]? = some v -> kindOf x = some .local ->
    bindL kindOf (P.zip vs) m x = some v
 | [],_,_,_,_,h,_,_=>by simp at h
 | _ :: _,[],_,_,_,_,h,_=>by simp at h
 | p :: P,w :: vs,0,m,nd,h1,h2,hk=>by
  simp at h1 h2;subst h1;subst h2;show bindL kindOf ((p,w) :: P.zip vs) m p = _;unfold bindL;rw [su fun v hv=>(List.nodup_cons.mp nd).1 (List.of_mem_zip hv).1,if_pos hk];simp
 | p :: P,w :: vs,i + 1,m,nd,h1,h2,hk=>by
  show bindL kindOf ((p,w) :: P.zip vs) m x = _;unfold bindL;exact sy (i:=i) (List.nodup_cons.mp nd).2 (by simpa using h1) (by simpa using h2) hk
theorem sJ {v : Value} : ∀ {P : List Str} {vs : List Value} {i : Nat} {m : Str -> Option Value}, P.Nodup -> P[i]? = some x -> vs[i]? = some v -> kindOf x ≠ some .local ->
    bindC kindOf (P.zip vs) m x = some v
 | [],_,_,_,_,h,_,_=>by simp at h
 | _ :: _,[],_,_,_,_,h,_=>by simp at h
 | p :: P,w :: vs,0,m,nd,h1,h2,hk=>by
  simp at h1 h2;subst h1;subst h2;show bindC kindOf ((p,w) :: P.zip vs) m p = _;unfold bindC;rw [sI fun v hv=>(List.nodup_cons.mp nd).1 (List.of_mem_zip hv).1,if_neg hk];simp
 | p :: P,w :: vs,i + 1,m,nd,h1,h2,hk=>by
  show bindC kindOf ((p,w) :: P.zip vs) m x = _;unfold bindC;exact sJ (i:=i) (List.nodup_cons.mp nd).2 (by simpa using h1) (by simpa using h2) hk
def start (N:List Str) (vs:List V):St:=vs.map some ++ List.replicate (N.length - vs.length) none
def gc (CX:E9) (P:Program) (w:World) (K:W.Frag) (mg:Str->Option Value) (base:Heap) (N:List Str) (qual:Str) (scope:Scope) (f:Addr) (cd:Value) (A:Around) (outer:List Env) (s:Shared) (H:Hp) (E:XK):Cx where
 prog:=P
 w:=w
 K:=K
 mg:=mg
 base:=base
 A:=A.deeper (envOfC qual scope s.heap.objs.size f cd)
 N:=N
 s₀:=s
 H₀:=H
 env:=envOfC qual scope s.heap.objs.size f cd
 outer:=outer
 stack:=envOfC qual scope s.heap.objs.size f cd :: outer
 ex:=[]
 calm:=true
 fn:=fun _=>true
 pn:=[]
 xe:=fun e s'=>wpAny (model P w) (A.deeper (envOfC qual scope s.heap.objs.size f cd)) (leaving (envOfC qual scope s.heap.objs.size f cd) e) (fun _ Qp=>CX outer H s E e Qp) (fun e' Qp=>CX outer H s E e' Qp) s'
theorem pH {sc:Scope} (h:sc.names.lookup x = some .cell):∃ c,(cellsFrom n sc.names []).lookup x = some c:=by
 have q:=W.cellsFrom_some sc.names n [] (.inl h);exact Option.isSome_iff_exists.mp q
theorem lJ {N : List Str} {qual : Str} {scope : Scope} {cd : Value} {outer : List Env} {s1 : Shared}
    (S:ao N ps scope) (hd:A.handled = none) (e0:Env0 P w K mg base A outer s H) (hl:vs.length = ps.length) (r:Vals vs us)
    (x:InCallC s s.heap.objs.size (bindL (envOfC qual scope s.heap.objs.size f cd).kindOf (ps.zip us) fun _=>none) (cellsFrom (s.heap.objs.size + 1) scope.names []) (bindC (envOfC qual scope s.heap.objs.size f cd).kindOf (ps.zip us) fun _=>none) s1) :
    Inv (gc CX P w K mg base N qual scope f cd A outer s H E) [] (start N vs) H s1:=by
 have lL:ps.length <= N.length:=by have:=congrArg List.length S.pre;rw [List.length_take] at this;omega
 obtain ⟨h1,tk,rfl,hk⟩:=x.done;have QK:∀ b:Addr,b ∉ (gc CX P w K mg base N qual scope f cd A outer s H E).ex:=fun b z=>absurd (show b ∈ ([]:List Addr) from z) (by simp)
 refine ⟨⟨e0.mod,S.kind,rfl,rfl,Nat.le_refl _,fun y z c h1 h2=>?_,fun y hy=>?_,fun y c _ h=>?_,fun _=>hd,Around.frames_deeper e0.frames,.inr ⟨rfl,rfl⟩,fun b z=>absurd z (QK b),e0.bs,e0.bsz,fun b _ _=>QK b,fun b z=>absurd z (QK b),e0.funs,e0.frf⟩,
  rfl,e0.bare,Un.kept hk,⟨_,x.toInCall.ns,fun i y v h1 h2 h3=>?_⟩,fun y c h=>⟨_,x.cell y c h⟩,e0.hok.fresh (Nat.le_refl _),fun y c h=>?_,fun p hp=>absurd (show p ∈ ([]:List (Addr × Obj)) from hp) (by simp),e0.hok.kept hk,?_⟩
 ·exact name_of_addr x.apart (PySem.mem_of_lookup h1) (PySem.mem_of_lookup h2)
 ·have hy:scope.names.lookup y = some .cell \/ scope.names.lookup y = some .free:=hy
  rcases hy with hy | hy
  ·exact pH hy
  ·exact absurd rfl (S.nofree _ (PySem.mem_of_lookup hy))
 ·exact Nat.le_of_lt (x.above y c (PySem.mem_of_lookup h))
 ·have hi:i < vs.length:=by
   unfold start at h2
   by_cases hi:i < vs.length
   ·exact hi
   ·rw [List.getElem?_append_right (by simpa using hi)] at h2;rw [List.getElem?_replicate] at h2
    split at h2 <;> cases h2
  have ha:vs[i]? = some v:=by
   unfold start at h2;rw [List.getElem?_append_left (by simpa using hi),List.getElem?_map] at h2
   cases e:vs[i]? with
   | none=>rw [e] at h2;cases h2
   | some a=>rw [e] at h2;cases h2;rfl
  obtain ⟨u,hu,rv⟩:=r.get ha;have hp:ps[i]? = some y:=by
   rw [<- S.pre,List.getElem?_take_of_lt (by omega)];exact h1
  have PB:ps.Nodup:=by rw [<- S.pre];exact S.nd.sublist (List.take_sublist _ _)
  refine ⟨u,rv,?_⟩
  rcases S.par y (List.mem_of_getElem? hp) with k | k
  ·exact .inl ⟨k,sy PB hp hu k⟩
  ·obtain ⟨c,e⟩:=pH (n:=s.heap.objs.size + 1) k;refine .inr ⟨.inl k,c,e,?_⟩;have q:=x.cell y c e;rw [sJ PB hp hu (by show scope.names.lookup y ≠ _;rw [k];decide)] at q;exact q
 ·exact e0.hok.fresh (Nat.le_of_lt (x.above y c (PySem.mem_of_lookup h)))
 ·unfold start;show _ = N.length;rw [List.length_append,List.length_map,List.length_replicate];omega
theorem Ep {name qual : Str} {params : Arguments} {body : List Stmt} {scope : Scope} {dV kV doc pm aT ct oc : Value} {an od : Option Addr}
    {yl:Array (Option Value)} {N ps:List Str} {sp:Sp} (lk:K.lookup f = some ⟨oc,od,.func (W.fnOf name qual params body scope dV kV doc pm an aT ct),yl⟩) (jF:W.codeIn K aT qual = true) (S:ao N ps scope)
    (len:∀ vs H Q E,sp vs H Q E->vs.length = ps.length)
    (du:∀ (A:Around) (outer:List Env) (s:Shared) (H:Hp) (vs:List V) (Q:VK) (E:XK),Room k (A.deeper (envOfC qual scope s.heap.objs.size f aT))->sp vs H Q E ->
     ∃ t,PSs (gc CX P w K mg base N qual scope f aT A outer s H E) body t/\t { nx:=fun _ H'=>Q .non H',rt:=Q } (start N vs) H) :
    FnOk P w K mg base CX (k + 1) f (W.fnOf name qual params body scope dV kV doc pm an aT ct) ps sp:=by
 refine ⟨len,fun A outer s H args us vs Q E hr e0 hb r we=>?_⟩;have hl:=len _ _ _ _ we;have KX:K.In s.heap:=e0.mod.kin.keeps fun b o e=>(e0.bs b o e).1
 have lim:s.heap.NoLimit:=e0.mod.nolimit.keeps fun b o e=>(e0.bs b o e).1
 have wk:∀ y ∈ ps.zip us,scope.names.lookup y.1 = some .local \/ (scope.names.lookup y.1 = some .cell/\((cellsFrom (s.heap.objs.size + 1) scope.names []).lookup y.1).isSome = true):=fun ⟨n,v⟩ hy=>by
  rcases S.par n (List.of_mem_zip hy).1 with q | q
  ·exact .inl q
  ·exact .inr ⟨q,W.cellsFrom_some _ _ _ (.inl q)⟩
 refine codeAny_call_function hr.depth (KX _ _ lk) rfl S.co S.gen rfl (W.codeRec_of KX jF) (hb _ _ _ _ ?_);refine wpAny_newFunctionEnv_cells S.kind wk fun env he s1 x=>?_
 subst he;refine ⟨lim.keeps x.toInCall.keep,codeAny_func ?_⟩;obtain ⟨t,ht,hq⟩:=du A outer s H vs Q E (hr.deeper _) we;have I:Inv (gc CX P w K mg base N qual scope f aT A outer s H E) [] (start N vs) H s1:=lJ S hr.hd e0 hl r x;refine wpAny_mono (ht [] s1 (start N vs) H _ I hq) (fun fl s' hs=>?_) fun e s' hs=>hs
 have fin:∀ {σ':St} {H':Hp} {v:V} {u:Value},Inv (gc CX P w K mg base N qual scope f aT A outer s H E) [] σ' H' s'->RelV v u->Q v H'->CE outer P w H s Q u s' :=
  fun {σ' H' v u} J rv q=>⟨v,H',J.os,J.bare,J.base,J.hok,rv,q⟩
 cases fl with
 | ret u =>
  obtain ⟨v,σ',H',J,rv,q⟩:=hs;exact fin J rv q
 | next =>
  obtain ⟨σ',H',J,q⟩:=hs;exact fin (v:=V.non) (u:=Value.none) J rfl q
 | brk =>
  obtain ⟨_,_,_,q⟩:=hs;exact False.elim q
 | cont =>
  obtain ⟨_,_,_,q⟩:=hs;exact False.elim q
section
variable {id T:String} {r:List V->Hp->VK->Prop}
def JV (r:List V->Hp->VK->Prop) (t:TA):TE:=fun σ H Q=>t σ H fun vs H1=>r vs H1 Q
theorem DE (hc : bq X (.builtin id) r) (hg : Gl X x) (hm : X.mg x = none) (hv : bootBuiltins x = some (.builtin id)) (ha : PA X (e :: es) t) (hn : x ≠ "__name__" := by decide) (iw : (x == ("__debug__" : Str)) = false := by decide)
    (he:starEach (e :: es) X.env = (false,eval e X.env) :: starEach es X.env:=by rfl) (lL:(backTo pos (starEach es X.env)).any (·.1) = false:=by rfl):PE X (.Call (.Name x p) (e :: es) [] pos) (JV r t):=by
 intro pins s σ H Q I h;refine wpAny_Call_Name_kw (lH I hg hm hv ?_ hn iw);exact PyProof.Rows.callWith_builtin1 (bw (ha pos pins s σ H _ I h) fun us s1 ⟨vs,H1,I1,r1,q1⟩=>hc pins s1 σ H1 vs us Q I1 r1 q1) he lL
theorem Ax (hc : bq X (.type T) r) (hg : Gl X x) (hm : X.mg x = none) (hv : bootBuiltins x = some (.type T)) (ha : PA X (e :: es) t) (hn : x ≠ "__name__" := by decide) (iw : (x == ("__debug__" : Str)) = false := by decide)
    (he:starEach (e :: es) X.env = (false,eval e X.env) :: starEach es X.env:=by rfl) (lL:(backTo pos (starEach es X.env)).any (·.1) = false:=by rfl):PE X (.Call (.Name x p) (e :: es) [] pos) (JV r t):=by
 intro pins s σ H Q I h;refine wpAny_Call_Name_kw (lH I hg hm hv ?_ hn iw);exact PyProof.Rows.callWith_type1 (bw (ha pos pins s σ H _ I h) fun us s1 ⟨vs,H1,I1,r1,q1⟩=>hc pins s1 σ H1 vs us Q I1 r1 q1) he lL
end
end L2
namespace HT
open PySem PyProof.Rows
section
variable {prog:Program} {w:World} {A:Around} {E:Value->Shared->Prop} {s:Shared}
theorem cat_tup {t b : Addr} {vs ws : List Value} {Q : Value -> Shared -> Prop} (ht : IsTup s.heap t vs.toArray) (hb : IsTup s.heap b ws.toArray) (hv : vs ≠ [])
    (h1:ws = []->Q (.ref t) s) (h2:ws ≠ []->Q (.ref s.heap.objs.size) { s with heap:=s.heap.push { cls:=.type "tuple",data:=.seq (vs ++ ws).toArray } })
    (hsz:vs.length + ws.length <= sizeLine):wpAny (model prog w) A (binaryOp .Add (.ref t) (.ref b)) Q E s:=by
 obtain ⟨⟨cls,dd,data,sl⟩,ho,hc,n,hd⟩:=id ht;obtain ⟨⟨XJ,Us,data2,SA⟩,PM,MZ,n2,hd2⟩:=id hb;simp only at hc hd MZ hd2;subst hc hd MZ hd2;have e:vs.toArray ++ ws.toArray = (vs ++ ws).toArray:=by simp
 by_cases hw:ws = []
 ·exact concat_meets ⟨_,ho,rfl⟩ ⟨_,PM,rfl⟩ noFill_tuple_add seq_tuple_add PySem.F.slot_tuple_add PySem.F.entry_tuple_add (PySem.F.args_tuple_add_2 _ _)
   (tuple_addW1 t b vs.toArray ws.toArray n n2 dd Us sl SA (by simpa using hv) (by simp [hw])) ⟨ho,PM,h1 hw⟩
 ·refine concat_meets ⟨_,ho,rfl⟩ ⟨_,PM,rfl⟩ noFill_tuple_add seq_tuple_add PySem.F.slot_tuple_add PySem.F.entry_tuple_add (PySem.F.args_tuple_add_2 _ _)
   (tuple_addW2 t b vs.toArray ws.toArray n n2 dd Us sl SA (by simpa using hv) (by simpa using hw) (by rw [List.size_toArray,List.size_toArray];exact hsz)) ⟨ho,PM,?_⟩
  rw [e];exact h2 hw
def sIx (n d:Nat):Option Int->Nat
 | none=>d
 | some v=>if v < 0 then (v + (n:Int)).toNat else min v.toNat n
theorem y7 (n d k:Nat):sIx n d (some (k:Int)) = min k n:=by
 show (if (k:Int) < 0 then ((k:Int) + (n:Int)).toNat else min (k:Int).toNat n) = min k n
 rw [if_neg (by omega),Int.toNat_natCast]
theorem Ka (n d:Nat) (hd:d <= n) (o:Option Int):sIx n d o <= n:=by
 cases o with
 | none=>exact hd
 | some v =>
  show (if v < 0 then (v + (n:Int)).toNat else min v.toNat n) <= n
  by_cases hv:v < 0
  ·rw [if_pos hv];omega
  ·rw [if_neg hv];exact Nat.min_le_right _ _
theorem zE (v:Int) (n d:Nat):(if v < 0 then max (v + (n:Int)) 0 else min v (n:Int)) = ((sIx n d (some v):Nat):Int):=by
 show (if v < 0 then max (v + (n:Int)) 0 else min v (n:Int)) = (((if v < 0 then (v + (n:Int)).toNat else min v.toNat n):Nat):Int)
 by_cases hv:v < 0
 ·simp only [if_pos hv];omega
 ·simp only [if_neg hv];omega
theorem yK (lo hi:Option Int) (n:Nat):Builtin.Slice.sliceAdjust lo hi 1 (n:Int) = (((sIx n 0 lo:Nat):Int),((sIx n n hi:Nat):Int)):=by
 have h1:¬ ((1:Int) < 0):=by omega
 unfold Builtin.Slice.sliceAdjust;simp only [h1,if_false];refine Prod.ext ?_ ?_
 ·cases lo with
  | none=>rfl
  | some v=>exact zE v n 0
 ·cases hi with
  | none=>rfl
  | some v=>exact zE v n n
theorem yk (i j:Nat):Builtin.Slice.slicePlaces (i:Int) (j:Int) 1 = j - i:=by
 unfold Builtin.Slice.slicePlaces;have h1:(1:Int) > 0:=by omega
 simp only [h1,if_true,Int.ediv_one]
 split <;> omega
theorem nR {v:Value} {o:Option Int} {Q:Option Int->Shared->Prop} (p:IsPart v o) (h:Q o s):wpAny (model prog w) A (Builtin.Slice.slicePartIndex v) Q E s:=by
 cases p with
 | none=>exact slicePart_none h
 | int i t=>exact slicePart_int h
theorem ll {sl : Addr} {vl vu : Value} {lo hi : Option Int} {n : Nat} {Q : Int × Int × Nat -> Shared -> Prop} (hs : s.heap.IsSliceOf sl vl vu .none) (pl : IsPart vl lo) (pu : IsPart vu hi)
    (h:Q (((sIx n 0 lo:Nat):Int),1,sIx n n hi - sIx n 0 lo) s):wpAny (model prog w) A (Builtin.Slice.sliceApplied (.ref sl) (pure (n:Int))) Q E s:=by
 obtain ⟨os,Oh,TK,PV⟩:=id hs;unfold Builtin.Slice.sliceApplied Builtin.Slice.sliceFields;refine wpAny_bind (wpAny_bind (wpAny_field Oh PV (x:=vl) rfl (wpAny_bind (wpAny_field Oh PV (x:=vu) rfl (wpAny_bind (wpAny_field Oh PV (x:=.none) rfl (wpAny_pure ?_)))))));refine wpAny_bind (slicePart_none ?_);show wpAny _ _ (if ((1:Int) == 0) = true then _ else _) _ _ s
 rw [if_neg (by decide)];refine wpAny_bind (nR pl (wpAny_bind (nR pu (wpAny_bind (wpAny_pure ?_)))));show wpAny _ _ (match Builtin.Slice.sliceAdjust lo hi 1 (n:Int) with | (lo,hi)=>pure (lo,(1:Int),Builtin.Slice.slicePlaces lo hi 1)) _ _ s
 rw [yK lo hi n];show wpAny _ _ (pure (((sIx n 0 lo:Nat):Int),(1:Int),Builtin.Slice.slicePlaces ((sIx n 0 lo:Nat):Int) ((sIx n n hi:Nat):Int) 1)) _ _ s;rw [yk];exact wpAny_pure h
theorem Du (xs:Array Value) (i k:Nat):((List.range k).filterMap fun (m:Nat)=>xs[((i:Int) + (m:Int) * 1).toNat]?).toArray = ((xs.toList.drop i).take k).toArray:=by
 have e:(fun (m:Nat)=>xs[((i:Int) + (m:Int) * 1).toNat]?) = fun m=>xs[i + m]?:=by
  funext m
  have:((i:Int) + (m:Int) * 1).toNat = i + m:=by omega
  rw [this]
 rw [e];have:=pick_run xs i k;rw [List.filterMap_map] at this;have e2:((fun x=>xs[x]?) ∘ fun x=>i + x) = fun m=>xs[i + m]?:=rfl
 rw [e2] at this;rw [this]
theorem getItem_tuple_cut {t sl : Addr} {items : Array Value} {vl vu : Value} {lo hi : Option Int} {Q : Value -> Shared -> Prop} (ht : IsTup s.heap t items) (hs : s.heap.IsSliceOf sl vl vu .none) (pl : IsPart vl lo) (pu : IsPart vu hi)
    (hw:¬ (sIx items.size 0 lo = 0/\sIx items.size items.size hi = items.size))
    (h:Q (.ref s.heap.objs.size) { s with heap:=s.heap.push { cls:=.type "tuple",data:=.seq ((items.toList.drop (sIx items.size 0 lo)).take (sIx items.size items.size hi - sIx items.size 0 lo)).toArray } })
    (hsz:items.size <= sizeLine):wpAny (model prog w) A (getItem (.ref t) (.ref sl)) Q E s:=by
 have zu:sizeOk (.seq ((items.toList.drop (sIx items.size 0 lo)).take (sIx items.size items.size hi - sIx items.size 0 lo)).toArray):=by
  show ((items.toList.drop (sIx items.size 0 lo)).take (sIx items.size items.size hi - sIx items.size 0 lo)).toArray.size <= sizeLine;rw [List.size_toArray,List.length_take,List.length_drop,Array.length_toList];omega
 have hj:sIx items.size items.size hi <= items.size:=Ka _ _ (Nat.le_refl _) hi;obtain ⟨os,Oh,TK,PV⟩:=id hs;have W2:s.TypeIs (.ref sl) "slice":=⟨os,Oh,TK⟩;unfold getItem
 try with_reducible refine wpAny_holding ?_
 first | refine wpAny_bind (wpAny_pure ?_) | skip
 refine wpAny_bind (wpAny_sequenceKey ht.typeIs (by decide) ?_);refine wpAny_bind (wpAny_callSpecial?_slot (name:=Str.ofString "__getitem__") ht.typeIs PyProof.Rows.slot_tuple_getitem
  (wpAny_call_entry PyProof.Rows.slot_tuple_getitem ht.typeIs entry_tuple_getitem ?_ (args_tuple_getitem _ _)))
 show wpAny _ _ (Builtin.Tuple.tupleItemsOf (.ref t) >>= _) _ _ s;refine wpAny_bind (tupleItemsOf_ ht ?_);refine wpAny_bind (wpAny_typeOf W2 ?_);rw [if_pos (by decide)];refine wpAny_bind (ll hs pl pu ?_);have Fj:¬ ((((sIx items.size 0 lo:Nat):Int) == 0 && (1:Int) == 1 && (sIx items.size items.size hi - sIx items.size 0 lo) == items.size) = true):=by
  intro q;rw [Bool.and_eq_true,Bool.and_eq_true] at q;have q1:((sIx items.size 0 lo:Nat):Int) = 0:=eq_of_beq q.1.1;have q2:sIx items.size items.size hi - sIx items.size 0 lo = items.size:=eq_of_beq q.2;exact hw ⟨by omega,by omega⟩
 show wpAny _ _ (if (((sIx items.size 0 lo:Nat):Int) == 0 && (1:Int) == 1 && (sIx items.size items.size hi - sIx items.size 0 lo) == items.size) = true then _ else _) _ _ s
 rw [if_neg Fj,Du]
 first
  | exact wpAny_bind (m:=Builtin.Tuple.tupleExact _) (wpAny_newObj_type (wpAny_pure ⟨_,rfl,wpAny_pure h⟩) zu)
  | exact wpAny_bind (m:=Builtin.Tuple.tupleExact _) (wpAny_newObj_type (wpAny_bind (wpAny_pure (wpAny_pure ⟨_,rfl,wpAny_pure h⟩))) zu)
  | exact wpAny_bind (wpAny_bind (m:=Builtin.Tuple.tupleExact _) (wpAny_newObj_type (wpAny_pure (wpAny_pure ⟨_,rfl,wpAny_pure h⟩)) zu))
  | exact wpAny_bind (wpAny_bind (m:=Builtin.Tuple.tupleExact _) (wpAny_newObj_type (wpAny_pure ⟨_,rfl,wpAny_pure h⟩) zu))
end
end HT
namespace L2
open PySem PySem.Spec PyProof.Rows
variable {X:Cx} {xs:List V} {α:Type} {n:Nat} {pins:List (Addr × Obj)} {σ:St} {H:Hp} {s:Shared} {x:V} {v:Value}
abbrev TO:=St->Hp->(Option Int->Hp->Prop)->Prop
def PO (X:Cx) (e:Option Expr) (t:TO):Prop :=
 ∀ (pins:List (Addr × Obj)) (s:Shared) (σ:St) (H:Hp) (Q:Option Int->Hp->Prop),Inv X pins σ H s->t σ H Q ->
  wpAny (model X.prog X.w) X.A (evalPart e X.env) (fun u s'=>∃ o H',Inv X pins σ H' s'/\IsPart u o/\Q o H') X.xe s
def sO:TO:=fun _ H Q=>Q none H
def BY (t:TE):TO:=fun σ H Q=>t σ H fun x H1=>∃ i,x = .int i/\Q (some i) H1
section
variable {e:Expr} {te:TE} {lo hi:Option Expr} {tl th:TO} {pos p2:Pos}
theorem Gv:PO X none sO:=by
 intro pins s σ H Q I h;rw [evalPart_none];exact wpAny_pure ⟨none,H,I,.none,h⟩
theorem Gu (h:PE X e te):PO X (some e) (BY te):=by
 intro pins s σ H Q I hw;rw [evalPart_some];refine bw (h pins s σ H _ I hw) fun u s1 ⟨x,H1,I1,r1,q1⟩=>?_
 obtain ⟨i,rfl,q⟩:=q1;obtain ⟨t,rfl⟩:=r1;exact ⟨some i,H1,I1,.int i t,q⟩
def SlR (X:Cx) (r:V->Option Int->Option Int->Hp->VK->Prop):Prop :=
 ∀ (pins:List (Addr × Obj)) (s:Shared) (σ:St) (H:Hp) (x:V) (v vl vu:Value) (lo hi:Option Int) (sl:Addr) (Q:VK),Inv X pins σ H s->RelV x v->s.heap.IsSliceOf sl vl vu .none->IsPart vl lo->IsPart vu hi->r x lo hi H Q ->
  ∃ T id,typeLookup (.type T) "__getitem__" = pure (some (.builtin id))/\s.TypeIs v T/\wpAny (model X.prog X.w) X.A (getItem v (.ref sl)) (EP X pins σ Q) X.xe s
theorem SlR.or {r r':V->Option Int->Option Int->Hp->VK->Prop} (h:SlR X r) (h':SlR X r'):SlR X (fun x lo hi H Q=>r x lo hi H Q \/ r' x lo hi H Q):=by
 intro pins s σ H x v vl vu lo hi sl Q I rx hs pl pu q
 rcases q with q | q
 ·exact h pins s σ H x v vl vu lo hi sl Q I rx hs pl pu q
 ·exact h' pins s σ H x v vl vu lo hi sl Q I rx hs pl pu q
def Qg (r:V->Option Int->Option Int->Hp->VK->Prop) (te:TE) (tl th:TO):TE:=fun σ H Q=>te σ H fun x H1=>tl σ H1 fun l H2=>th σ H2 fun u H3=>r x l u H3 Q
theorem Dy {r:V->Option Int->Option Int->Hp->VK->Prop} (hr:SlR X r) (he:PE X e te) (hl:PO X lo tl) (hu:PO X hi th):PE X (.Subscript e (.Slice lo hi none p2) pos) (Qg r te tl th):=by
 intro pins s σ H Q I h;refine Subscript_ (bw (he pins s σ H _ I h) fun v s1 ⟨x,H1,I1,r1,q1⟩=>?_)
 refine wpAny_Slice (bw (hl pins s1 σ H1 _ I1 q1) fun vl s2 ⟨l,H2,I2,pl,q2⟩=>bw (hu pins s2 σ H2 _ I2 q2) fun vu s3 ⟨u,H3,I3,pu,q3⟩=>?_)
 rw [evalPart_none];refine wpAny_pure ?_;have I4:Inv X pins σ H3 { s3 with heap:=s3.heap.push { cls:=.type "slice",data:=.fields #[vl,vu,.none] } }:=I3.kept (t':=s3.toks) fun b ob q=>Heap.get?_push_of_some _ q
 obtain ⟨T,id,hT,ht,hg⟩:=hr pins { s3 with heap:=s3.heap.push { cls:=.type "slice",data:=.fields #[vl,vu,.none] } } σ H3 x v vl vu l u s3.heap.objs.size Q I4 r1 (Heap.IsSliceOf.new ..) pl pu q3;show wpAny (model X.prog X.w) X.A (subscriptTail e (.Slice lo hi none p2) v (.ref s3.heap.objs.size)) (EP X pins σ Q) X.xe { s3 with heap:=s3.heap.push { cls:=.type "slice",data:=.fields #[vl,vu,.none] } };exact tail_any (ops:=[.ref s3.heap.objs.size,v]) ht hT hg (by with_unfolding_all rfl)
def pF (xs:List V) (lo hi:Option Int):List V:=(xs.drop (HT.sIx xs.length 0 lo)).take (HT.sIx xs.length xs.length hi - HT.sIx xs.length 0 lo)
theorem mC (xs:List V) (lo hi:Option Int):(pF xs lo hi).length <= xs.length:=by
 unfold pF;rw [List.length_take,List.length_drop];omega
def Np (K:W.Frag):V->Option Int->Option Int->Hp->VK->Prop:=fun x lo hi H Q=>∃ a xs,x = .ref a/\SqT K H a xs /\
 ¬ (HT.sIx xs.length 0 lo = 0/\HT.sIx xs.length xs.length hi = xs.length)/\∀ p,H p = none->Q (.ref p) (upd H p (.tup (pF xs lo hi)))
theorem J6:SlR X (Np X.K):=by
 intro pins s σ H x v vl vu lo hi sl Q I rx hs pl pu h;obtain ⟨a,xs,rfl,hx,hw,q⟩:=h
 cases rx
 obtain ⟨its,r,ht,hz⟩:=I.tuple hx;have hlen:its.toArray.size = xs.length:=by rw [List.size_toArray];exact r.length.symm
 refine ⟨"tuple",_,PyProof.Rows.slot_tuple_getitem.lookup,ht.typeIs,?_⟩;refine HT.getItem_tuple_cut ht hs pl pu (by rw [hlen];exact hw) ?_ (by rw [hlen];exact hz);rw [hlen];refine ⟨.ref s.heap.objs.size,_,I.laid (t':=s.toks) (o:=.tup (pF xs lo hi)) (fun b ob q=>Heap.get?_push_of_some _ q) (Nat.le_refl _) ?_,rfl,q _ (I.hok.fresh (Nat.le_refl _))⟩;exact ⟨Nat.le_trans (mC xs lo hi) hz,_,(r.drop (HT.sIx xs.length 0 lo)).take (HT.sIx xs.length xs.length hi - HT.sIx xs.length 0 lo),IsTup.new _ _⟩
def Jd (K:W.Frag):R2:=fun x y H Q=>∃ a b xs ys,x = .ref a/\y = .ref b/\SqT K H a xs/\SqT K H b ys/\xs ≠ []/\xs.length + ys.length <= sizeLine /\
 (ys = []->Q (.ref a) H)/\(ys ≠ []->∀ p,H p = none->Q (.ref p) (upd H p (.tup (xs ++ ys))))
theorem Vals.nil_iff {us:List Value} (r:Vals xs us):us = [] ↔ xs = []:=by
 cases r with
 | nil=>simp
 | cons _ _=>simp
theorem GY:OpR X (binaryOp .Add) (Jd X.K):=by
 intro pins s σ H x y v u Q I rx ry h;obtain ⟨a,b,xs,ys,rfl,rfl,ha,hb,hx,hz,q1,q2⟩:=h
 cases rx
 cases ry
 obtain ⟨its,r1,p1,_⟩:=I.tuple ha;obtain ⟨gH,r2,p2,_⟩:=I.tuple hb;refine HT.cat_tup p1 p2 (fun z=>hx (r1.nil_iff.mp z)) (fun z=>⟨.ref a,H,I,rfl,q1 (r2.nil_iff.mp z)⟩) (fun z=>?_) (by rw [<- r1.length,<- r2.length];exact hz)
 refine ⟨.ref s.heap.objs.size,_,I.laid (t':=s.toks) (o:=.tup (xs ++ ys)) (fun b ob q=>Heap.get?_push_of_some _ q) (Nat.le_refl _) ?_,rfl,q2 (fun w=>z (r2.nil_iff.mpr w)) _ (I.hok.fresh (Nat.le_refl _))⟩;exact ⟨by rw [List.length_append];exact hz,_,r1.append r2,IsTup.new _ _⟩
end
def Jl (n:Nat) (i:Int):Option Nat:=if 0 <= i then (if i < n then some i.toNat else none) else if -(n:Int) <= i then some (i + n).toNat else none
def uC (xs:List α) (i:Int):Option α:=(Jl xs.length i).bind fun j=>xs[j]?
theorem HQ {i:Int} {j:Nat} (h:Jl n i = some j):seqIndex? i n = some j/\j < n/\-(n:Int) <= i/\i < n:=by
 unfold Jl at h
 by_cases h0:0 <= i
 ·rw [if_pos h0] at h
  by_cases h1:i < n
  ·rw [if_pos h1] at h;have e:i.toNat = j:=Option.some.inj h;exact ⟨by rw [seqIndex_of h0 h1,e],by omega,by omega,h1⟩
  ·rw [if_neg h1] at h;cases h
 ·rw [if_neg h0] at h
  by_cases h1:-(n:Int) <= i
  ·rw [if_pos h1] at h;have e:(i + n).toNat = j:=Option.some.inj h;exact ⟨by rw [seqIndex_neg (by omega) h1,e],by omega,h1,by omega⟩
  ·rw [if_neg h1] at h;cases h
theorem uB {xs:List α} {i:Int} {v:α} (h:uC xs i = some v):∃ j,seqIndex? i xs.length = some j/\xs[j]? = some v/\j < xs.length/\-(xs.length:Int) <= i/\i < xs.length:=by
 unfold uC at h
 cases e:Jl xs.length i with
 | none=>rw [e] at h;cases h
 | some j =>
  rw [e] at h;obtain ⟨h1,h2,h3,h4⟩:=HQ e;exact ⟨j,h1,h,h2,h3,h4⟩
theorem kT {xs:List α} {j:Nat} {v:α} (h:xs[j]? = some v):uC xs (j:Int) = some v:=by
 have hj:j < xs.length:=(List.getElem?_eq_some_iff.mp h).1;have e:Jl xs.length (j:Int) = some j:=by
  unfold Jl;rw [if_pos (by omega),if_pos (by omega)];simp
 unfold uC;rw [e];exact h
theorem E1 (xs:List α) (v:α):uC (xs ++ [v]) (-1) = some v:=by
 have hl:(xs ++ [v]).length = xs.length + 1:=by simp
 have e:Jl (xs ++ [v]).length (-1) = some xs.length:=by
  unfold Jl;rw [hl,if_neg (by decide),if_pos (by omega)]
  congr 1
  omega
 unfold uC;rw [e];show (xs ++ [v])[xs.length]? = some v;simp
def zN (b:Expr):Prop:=∀ o i,subscripted b false o i = operate [o,i] (getItem o i)
def IxR (X:Cx) (r:R2):Prop :=
 ∀ (value slice:Expr) (pins:List (Addr × Obj)) (s:Shared) (σ:St) (H:Hp) (x y:V) (v u:Value) (Q:VK),Inv X pins σ H s->RelV x v->RelV y u->r x y H Q ->
  subscripted slice false v u = operate [v,u] (getItem v u)->wpAny (model X.prog X.w) X.A (subscriptTail value slice v u) (EP X pins σ Q) X.xe s
def Ss (X:Cx) (id:String) (r:V->List V->Hp->VK->Prop):Prop :=
 ∀ (pins:List (Addr × Obj)) (s:Shared) (σ:St) (H:Hp) (x:V) (xs:List V) (v:Value) (us:List Value) (Q:VK),Inv X pins σ H s->RelV x v->Vals xs us->r x xs H Q ->
  wpAny (model X.prog X.w) X.A (call (.builtin id) (v :: us)) (EP X pins σ Q) X.xe s
section
variable {a b:Expr} {ta tb:TE} {pos:Pos}
theorem IxR.or {r r':R2} (h:IxR X r) (h':IxR X r'):IxR X (fun x y H Q=>r x y H Q \/ r' x y H Q):=by
 intro value slice pins s σ H x y v u Q I rx ry q hs
 rcases q with q | q
 ·exact h value slice pins s σ H x y v u Q I rx ry q hs
 ·exact h' value slice pins s σ H x y v u Q I rx ry q hs
theorem NI {r:R2} (hr:IxR X r) (ha:PE X a ta) (hb:PE X b tb) (hs:zN b):PE X (.Subscript a b pos) (Fs r ta tb):=by
 intro pins s σ H Q I h;exact Subscript_ (Mv ha hb I h fun v u s2 x y H2 I2 rx ry q=>hr a b pins s2 σ H2 x y v u Q I2 rx ry q (hs _ _))
def Nw (K:W.Frag):R2:=fun x y H Q=>∃ p xs i v,x = .ref p/\y = .int i/\SqL K H p xs/\uC xs i = some v/\Q v H
def Nu (K:W.Frag):R2:=fun x y H Q=>∃ p xs i v,x = .ref p/\y = .int i/\SqT K H p xs/\uC xs i = some v/\Q v H
def Nv:R2:=fun x y H Q=>∃ z i c,x = .str z/\y = .int i/\z.length <= sizeLine/\uC z.cps.toList i = some c/\Q (.str ⟨#[c]⟩) H
theorem HP:IxR X (Nw X.K):=by
 intro value slice pins s σ H x y v u Q I rx ry h hs;obtain ⟨p,xs,i,z,rfl,rfl,hq,he,q⟩:=h
 cases rx
 obtain ⟨t,rfl⟩:=ry;obtain ⟨its,r,pl,hz⟩:=I.list hq;obtain ⟨j,h1,h2,h3,h4,h5⟩:=uB he;obtain ⟨w,ew,Ak⟩:=r.get h2;have hl:=r.length;have hn:=tV;have fin:EP X pins σ Q w s:=⟨z,H,I,Ak,q⟩
 by_cases h0:0 <= i
 ·have hj:i.toNat = j:=by
   rw [seqIndex_of h0 h5] at h1;exact Option.some.inj h1
  exact item_listR pl.isList h0 (by omega) (by rw [hj];simpa using ew) fin hs
 ·have hj:(i + (its.toArray.size:Int)).toNat = j:=by
   rw [seqIndex_neg (by omega) h4] at h1;rw [List.size_toArray,<- hl];exact Option.some.inj h1
  exact subscriptTail_builtinR (x:=w) pl.isList.typeIs slot_list_getitem.lookup
   (wpAny_getItem_list_neg (Q:=fun r s'=>r = w/\EP X pins σ Q r s') pl.isList (by omega) (by rw [List.size_toArray] <;> omega) (by omega) (by rw [hj];simpa using ew) ⟨rfl,fin⟩) hs
theorem LH:IxR X (Nu X.K):=by
 intro value slice pins s σ H x y v u Q I rx ry h hs;obtain ⟨p,xs,i,z,rfl,rfl,hq,he,q⟩:=h
 cases rx
 obtain ⟨t,rfl⟩:=ry;obtain ⟨its,r,pl,hz⟩:=I.tuple hq;obtain ⟨j,h1,h2,h3,h4,h5⟩:=uB he;obtain ⟨w,ew,Ak⟩:=r.get h2;have hl:=r.length;have hn:=tV;have fin:EP X pins σ Q w s:=⟨z,H,I,Ak,q⟩;exact subscriptTail_builtinR (x:=w) pl.typeIs slot_tuple_getitem.lookup
  (getItem_tuple (j:=j) (Q:=fun r s'=>r = w/\EP X pins σ Q r s') pl (by omega) (by omega) (by rw [List.size_toArray,<- hl];exact h1) (by simpa using ew) ⟨rfl,fin⟩) hs
theorem LJ:IxR X Nv:=by
 intro value slice pins s σ H x y v u Q I rx ry h hs;obtain ⟨z,i,c,rfl,rfl,hz,he,q⟩:=h;obtain ⟨t,rfl⟩:=rx;obtain ⟨t',rfl⟩:=ry;obtain ⟨j,h1,h2,h3,h4,h5⟩:=uB he;have hl:z.cps.toList.length = z.length:=by simp [Str.length]
 rw [hl] at h1 h4 h5;have hn:=tV;exact tail_any (typeIs_str s z t) slot_str_getitem.lookup (getItem_str (c:=c) (by
  have e1:decide (i < -(2 ^ 63:Int)) = false:=decide_eq_false (by omega);have e2:decide (i >= 2 ^ 63) = false:=decide_eq_false (by omega);rw [e1,e2,Bool.or_false]) (by rw [h1];simpa using h2) ⟨.str ⟨#[c]⟩,H,I.tok _,⟨_,rfl⟩,q⟩) hs
def ML (K:W.Frag):R2:=fun x y H Q=>Nw K x y H Q \/ Nu K x y H Q \/ Nv x y H Q
theorem aC:IxR X (ML X.K):=HP.or (LH.or LJ)
theorem Inv.lst {pins : List (Addr × Obj)} {σ : St} {H : Hp} {s : Shared} {p : Addr} {xs : List V} (I : Inv X pins σ H s) (h : H p = some (.lst xs)) :
    ∃ (its:List Value) (n:Nat),Vals xs its/\s.heap.get? p = some { cls:=.type "list",data:=.seq its.toArray n }/\xs.length <= sizeLine:=by
 obtain ⟨z,its,n,r,e⟩:=I.hok p _ h;exact ⟨its,n,r,e,z⟩
theorem sQ (lo hi:Option Int) (n:Nat):(sliceBounds lo hi none n).1 = ((HT.sIx n 0 lo:Nat):Int)/\(sliceBounds lo hi none n).2.1 = ((HT.sIx n n hi:Nat):Int)/\(sliceBounds lo hi none n).2.2 = 1:=by
 refine ⟨?_,?_,rfl⟩
 ·cases lo with
  | none=>simp [sliceBounds,HT.sIx]
  | some i =>
   simp only [sliceBounds,HT.sIx,Option.getD_none,show (1:Int) > 0 by decide,if_true]
   by_cases h:i < 0
   ·simp only [h,if_true] <;> omega
   ·simp only [h,if_false] <;> omega
 ·cases hi with
  | none=>simp [sliceBounds,HT.sIx]
  | some i =>
   simp only [sliceBounds,HT.sIx,Option.getD_none,show (1:Int) > 0 by decide,if_true]
   by_cases h:i < 0
   ·simp only [h,if_true] <;> omega
   ·simp only [h,if_false] <;> omega
theorem qf (its:List Value) (lo hi:Option Int):slicePick its.toArray lo hi none = ((its.drop (HT.sIx its.length 0 lo)).take (HT.sIx its.length its.length hi - HT.sIx its.length 0 lo)).toArray:=by
 obtain ⟨h1,h2,h3⟩:=sQ lo hi its.toArray.size;unfold slicePick;rw [h1,h2,h3];simp only [sliceRange_one,pick_run,List.size_toArray] <;> rfl
def Nr (K:W.Frag):V->Option Int->Option Int->Hp->VK->Prop:=fun x lo hi H Q=>∃ a xs,x = .ref a/\SqL K H a xs/\∀ p,H p = none->Q (.ref p) (upd H p (.lst (pF xs lo hi)))
theorem FE:SlR X (Nr X.K):=by
 intro pins s σ H x v vl vu lo hi sl Q I rx hs pl pu h;obtain ⟨a,xs,rfl,hx,q⟩:=h
 cases rx
 obtain ⟨its,r,ht,hz⟩:=I.list hx;have hlen:=r.length;refine ⟨"list",_,slot_list_getitem.lookup,ht.isList.typeIs,?_⟩;refine wpAny_getItem_list_slice ht.isList hs pl pu .none (by simp) ?_ (by rw [List.size_toArray] <;> omega);rw [qf,<- hlen];refine ⟨.ref s.heap.objs.size,_,I.laid (t':=s.toks) (o:=.lst (pF xs lo hi)) (fun b ob q=>Heap.get?_push_of_some _ q) (Nat.le_refl _) ?_,rfl,q _ (I.hok.fresh (Nat.le_refl _))⟩
 exact ⟨Nat.le_trans (mC xs lo hi) hz,_,0,(r.drop (HT.sIx xs.length 0 lo)).take (HT.sIx xs.length xs.length hi - HT.sIx xs.length 0 lo),Heap.get?_push_size _ rfl⟩
def kN:V->Bool
 | .non=>true
 | .bl _=>true
 | .int _=>true
 | .str _=>true
 | _=>false
def Fo:V->V->Bool
 | .non,.non=>true
 | .bl a,.bl b=>a == b
 | .bl a,.int b=>(if a then 1 else 0) == b
 | .int a,.bl b=>a == (if b then 1 else 0)
 | .int a,.int b=>a == b
 | .str a,.str b=>a == b
 | _,_=>false
theorem Mh {A:Around} {y:V} {u:Value} (ry:RelV y u) (rx:RelV x v) (fy:kN y = true) (fx:kN x = true):SeqAt.EqAt A s u v (Fo y x):=by
 cases y with
 | non =>
  cases ry
  cases x with
  | non=>cases rx;exact SeqAt.EqAt.same _
  | bl b=>cases rx;exact SeqAt.EqAt.none_bool b
  | int b=>obtain ⟨t,rfl⟩:=rx;exact SeqAt.EqAt.none_int b t
  | str b=>obtain ⟨t,rfl⟩:=rx;exact SeqAt.EqAt.none_str b t
  | _=>exact absurd (show false = true from fx) Bool.false_ne_true
 | bl a =>
  cases ry
  cases x with
  | non=>cases rx;exact SeqAt.EqAt.bool_none a
  | bl b=>cases rx;exact SeqAt.EqAt.bool_bool a b
  | int b=>obtain ⟨t,rfl⟩:=rx;exact SeqAt.EqAt.bool_int a b t
  | str b=>obtain ⟨t,rfl⟩:=rx;exact SeqAt.EqAt.bool_str a b t
  | _=>exact absurd (show false = true from fx) Bool.false_ne_true
 | int a =>
  obtain ⟨t',rfl⟩:=ry
  cases x with
  | non=>cases rx;exact SeqAt.EqAt.int_none a t'
  | bl b=>cases rx;exact SeqAt.EqAt.int_bool a t' b
  | int b=>obtain ⟨t,rfl⟩:=rx;exact SeqAt.EqAt.int_int a t' b t
  | str b=>obtain ⟨t,rfl⟩:=rx;exact SeqAt.EqAt.int_str a t' b t
  | _=>exact absurd (show false = true from fx) Bool.false_ne_true
 | str a =>
  obtain ⟨t',rfl⟩:=ry
  cases x with
  | non=>cases rx;exact SeqAt.EqAt.str_none a t'
  | bl b=>cases rx;exact SeqAt.EqAt.str_bool a t' b
  | int b=>obtain ⟨t,rfl⟩:=rx;exact SeqAt.EqAt.str_int a t' b t
  | str b=>obtain ⟨t,rfl⟩:=rx;exact SeqAt.EqAt.str_str a t' b t
  | _=>exact absurd (show false = true from fx) Bool.false_ne_true
 | _=>exact absurd (show false = true from fy) Bool.false_ne_true
def yD (x:V) (u:Value):Bool:=match u with
 | .none=>Fo .non x
 | .bool b=>Fo (.bl b) x
 | .int i _=>Fo (.int i) x
 | .str z _=>Fo (.str z) x
 | _=>false
theorem Es {y:V} {u:Value} (r:RelV y u) (f:kN y = true):yD x u = Fo y x:=by
 cases y with
 | non=>cases r;rfl
 | bl b=>cases r;rfl
 | int i=>obtain ⟨t,rfl⟩:=r;rfl
 | str z=>obtain ⟨t,rfl⟩:=r;rfl
 | _=>exact absurd (show false = true from f) Bool.false_ne_true
theorem kX {x:V}:∀ {xs:List V} {us:List Value},Vals xs us->xs.all kN = true->us.any (yD x) = xs.any fun y=>Fo y x
 | _,_,.nil,_=>rfl
 | y :: xs,u :: us,.cons r t,f=>by
  rw [List.all_cons,Bool.and_eq_true] at f;rw [List.any_cons,List.any_cons,Es r f.1,kX t f.2]
theorem iK {A:Around} {s:Shared} {x:V} {v:Value} (rx:RelV x v) (fx:kN x = true):∀ {xs:List V} {us:List Value},Vals xs us->xs.all kN = true->∀ u ∈ us,SeqAt.EqAt A s u v (yD x u)
 | _,_,.nil,_=>fun u hu=>by cases hu
 | y :: xs,u :: us,.cons r t,f=>fun u' hu=>by
  rw [List.all_cons,Bool.and_eq_true] at f
  rcases List.mem_cons.mp hu with rfl | hu
  ·rw [Es r f.1];exact Mh r rx f.1 fx
  ·exact iK rx fx t f.2 u' hu
def PF (x:V) (xs:List V):Bool:=xs.any fun y=>Fo y x
def Pw (K:W.Frag) (neg:Bool):R2:=fun x y H Q=>∃ p xs,y = .ref p/\(SqL K H p xs \/ SqT K H p xs)/\kN x = true/\xs.all kN = true/\Q (.bl (if neg then !PF x xs else PF x xs)) H
theorem rE:OpR X (compareOp .In) (Pw X.K false):=by
 intro pins s σ H x y v u Q I rx ry h;obtain ⟨p,xs,rfl,hq,fx,fs,q⟩:=h
 cases ry
 rcases hq with hq | hq
 ·obtain ⟨its,r,pl,hz⟩:=I.list hq;refine SeqAt.in_listAt (yD x) pl.isList (fun w hw=>iK rx fx r fs w (by simpa using hw)) ⟨.bl _,H,I,rfl,?_⟩
  rw [show its.toArray.any (yD x) = its.any (yD x) by simp,kX r fs];exact q
 ·obtain ⟨its,r,pl,hz⟩:=I.tuple hq;refine SeqAt.in_tupleAt (yD x) pl (fun w hw=>iK rx fx r fs w (by simpa using hw)) ⟨.bl _,H,I,rfl,?_⟩
  rw [show its.toArray.any (yD x) = its.any (yD x) by simp,kX r fs];exact q
theorem tJ:OpR X (compareOp .NotIn) (Pw X.K true):=by
 intro pins s σ H x y v u Q I rx ry h;obtain ⟨p,xs,rfl,hq,fx,fs,q⟩:=h
 cases ry
 rcases hq with hq | hq
 ·obtain ⟨its,r,pl,hz⟩:=I.list hq;refine SeqAt.notIn_listAt (yD x) pl.isList (fun w hw=>iK rx fx r fs w (by simpa using hw)) ⟨.bl _,H,I,rfl,?_⟩
  rw [show its.toArray.any (yD x) = its.any (yD x) by simp,kX r fs];exact q
 ·obtain ⟨its,r,pl,hz⟩:=I.tuple hq;refine SeqAt.notIn_tupleAt (yD x) pl (fun w hw=>iK rx fx r fs w (by simpa using hw)) ⟨.bl _,H,I,rfl,?_⟩
  rw [show its.toArray.any (yD x) = its.any (yD x) by simp,kX r fs];exact q
theorem ux:bq X (.type "list") (fun xs H Q=>∃ p ys,xs = [.ref p]/\(SqL X.K H p ys \/ SqT X.K H p ys)/\∀ l,H l = none->Q (.ref l) (upd H l (.lst ys))):=by
 intro pins s σ H xs us Q I r h;obtain ⟨p,ys,rfl,hq,q⟩:=h;obtain ⟨u,rfl,rx⟩:=vals1 r
 cases rx
 have fin : ∀ (its : List Value), Vals ys its -> ys.length <= sizeLine -> ∀ (h' : Heap) (c' : Nat), (∀ b o', s.heap.get? b = some o' -> h'.get? b = some o') ->
     h'.get? s.heap.objs.size = some { cls:=.type "list",dict:=none,data:=.seq its.toArray c',slots:=#[] }->EP X pins σ Q (.ref s.heap.objs.size) { s with heap:=h' }:=fun its r' hz h' c' kp e =>
  ⟨.ref s.heap.objs.size,_,I.laid (t':=s.toks) kp (Nat.le_refl _) (show ObjOk X.prog X.w _ h' _ (.lst ys) from ⟨hz,its,c',r',e⟩),rfl,q _ (I.hok.fresh (Nat.le_refl _))⟩
 rcases hq with hq | hq
 ·obtain ⟨its,r',pl,hz⟩:=I.list hq;have hlen:=r'.length;obtain ⟨o,ho,hc,n,hd⟩:=pl.isList;exact call_list_seq p (.inl rfl) ho hc hd (fun h' c' kp e=>fin its r' hz h' c' kp e) (by simp only [List.size_toArray] <;> omega)
 ·obtain ⟨its,r',pl,hz⟩:=I.tuple hq;have hlen:=r'.length;obtain ⟨o,ho,hc,n,hd⟩:=pl;exact call_list_seq p (.inr rfl) ho hc hd (fun h' c' kp e=>fin its r' hz h' c' kp e) (by simp only [List.size_toArray] <;> omega)
theorem qN:bq X (.type "tuple") (fun xs H Q=>∃ p ys,xs = [.ref p]/\((SqL X.K H p ys/\∀ l,H l = none->Q (.ref l) (upd H l (.tup ys))) \/ (SqT X.K H p ys/\Q (.ref p) H))):=by
 intro pins s σ H xs us Q I r h;obtain ⟨p,ys,rfl,h⟩:=h;obtain ⟨u,rfl,rx⟩:=vals1 r
 cases rx
 rcases h with ⟨hq,q⟩ | ⟨hq,q⟩
 ·obtain ⟨its,r',pl,hz⟩:=I.list hq;have hlen:=r'.length;refine call_tuple_list pl.isList (fun h' kp=>?_) (by simp only [List.size_toArray] <;> omega)
  have I1:Inv X pins σ H { s with heap:=h' }:=I.kept (t':=s.toks) kp;have I2:Inv X pins σ (upd H h'.objs.size (.tup ys)) { s with heap:=h'.push { cls:=.type "tuple",data:=.seq its.toArray } } :=
   I1.laid (t':=s.toks) (fun b o e=>Heap.get?_push_of_some _ e) (Nat.le_refl _) (show ObjOk X.prog X.w _ _ _ (.tup ys) from ⟨hz,its,r',IsTup.new _ _⟩)
  exact ⟨.ref h'.objs.size,_,I2,rfl,q _ (I1.hok.fresh (Nat.le_refl _))⟩
 ·obtain ⟨its,r',pl,hz⟩:=I.tuple hq;exact call_tuple_same pl ⟨.ref p,H,I,rfl,q⟩
def JK (K:W.Frag) (T:String) (x:V) (H:Hp):Prop:=match x with
 | .str _=>T = "str"
 | .int _=>T = "int"
 | .ref p => (T = "list" /\ ∃ xs, SqL K H p xs) \/ (T = "tuple" /\ ∃ o, K.lookup p = some o /\ o.cls = .type "tuple" /\ o.dict = none) \/
     (T = "dict"/\((∃ kvs,H p = some (.dK kvs)) \/ ∃ kvs,H p = some (.dT kvs))) \/ (T = "set"/\∃ S n,H p = some (.set S n))
 | _=>False
theorem BJ {T : String} (I : Inv X pins σ H s) (r : RelV x v) (ty : JK X.K T x H) :
    s.TypeIs v T/\∀ a,v = .ref a->∃ ob,s.heap.get? a = some ob/\ob.dict = none:=by
 cases x with
 | str z =>
  obtain ⟨t,rfl⟩:=r
  cases (show T = "str" from ty)
  exact ⟨typeIs_str s z t,fun _ e=>nomatch e⟩
 | int i =>
  obtain ⟨t,rfl⟩:=r
  cases (show T = "int" from ty)
  exact ⟨typeIs_int s i t,fun _ e=>nomatch e⟩
 | ref p =>
  cases r
  rcases ty with ⟨rfl,xs,hq⟩ | ⟨rfl,o,hk,hc,hd⟩ | ⟨rfl,hk⟩ | ⟨rfl,S,n,hk⟩
  ·obtain ⟨its,_,pl,_⟩:=I.list hq;refine ⟨pl.isList.typeIs,fun a e=>?_⟩
   cases e
   obtain ⟨o,n,e,c,hd,_⟩:=pl;exact ⟨o,e,hd⟩
  ·refine ⟨⟨o,I.kIn p o hk,hc⟩,fun a e=>?_⟩
   cases e
   exact ⟨o,I.kIn _ o hk,hd⟩
  ·have z:∃ o,s.heap.get? p = some o/\o.ExactDict:=by
    rcases hk with ⟨kvs,hk⟩ | ⟨kvs,hk⟩
    ·obtain ⟨_,_,_,_,o,_,_,e,ex,_⟩:=I.hok p _ hk;exact ⟨o,e,ex⟩
    ·obtain ⟨_,_,_,_,o,_,_,e,ex,_⟩:=I.hok p _ hk;exact ⟨o,e,ex⟩
   obtain ⟨o,e,ex⟩:=z;refine ⟨⟨o,e,ex.1⟩,fun a e2=>?_⟩
   cases e2
   exact ⟨o,e,ex.2.1⟩
  ·obtain ⟨o,_,_,_,e,ex,_⟩:=I.hok p _ hk;refine ⟨⟨o,e,ex.1⟩,fun a e2=>?_⟩
   cases e2
   exact ⟨o,e,ex.2.1⟩
 | _=>exact False.elim ty
def JW (K:W.Frag) (T:String) (r:V->List V->Hp->VK->Prop) (to:TE):TE:=fun σ H Q=>to σ H fun x H1=>JK K T x H1/\r x [] H1 Q
def MH (K:W.Frag) (T:String) (r:V->List V->Hp->VK->Prop) (to:TE) (t:TA):TE:=fun σ H Q=>to σ H fun x H1=>JK K T x H1/\t σ H1 fun xs H2=>r x xs H2 Q
variable {o e:Expr} {es:List Expr} {to:TE} {t:TA} {name:Str} {apos cu:Pos} {T id:String} {r:V->List V->Hp->VK->Prop}
theorem Lc (pa : PlainAttrs T) (slot : Slot T name id) (Fh : typeOf (.builtin id) = pure (.type "method_descriptor")) (hm : Ss X id r) (ho : PE X o to)
    (gK:attributeBase o name X.env (eval o X.env) = eval o X.env:=by rfl) (gJ:(apos.endLine == cu.line) = true:=by rfl):PE X (.Call (.Attribute o name apos) [] [] cu) (JW X.K T r to):=by
 intro pins s σ H Q I h;refine wpAny_Call_method0_late gK gJ (bw (ho pins s σ H _ I h) fun v s1 ⟨x,H1,I1,r1,ty,q1⟩=>?_)
 obtain ⟨h1,h2⟩:=BJ I1 r1 ty;exact ⟨T,id,pa,slot,Fh,h1,h2,Calls.callWith_builtin rfl (PySem.evalArgs_none (hm pins s1 σ H1 x [] v [] Q I1 r1 .nil q1))⟩
theorem zh (pa : PlainAttrs T) (slot : Slot T name id) (Fh : typeOf (.builtin id) = pure (.type "method_descriptor")) (hm : Ss X id r) (ho : PE X o to) (ha : PA X (e :: es) t)
    (gK:attributeBase o name X.env (eval o X.env) = eval o X.env:=by rfl)
    (ug:((backTo cu (starEach (e :: es) X.env)).all (fun x=>!x.1) && (backToKw cu (keywordEach [] X.env)).all (fun x=>x.1.isSome)
     && decide ((e :: es).length + ([]:List Keyword).length + (if ([]:List Keyword).isEmpty then 0 else 1) < 30)) = true:=by rfl)
    (gJ:(apos.endLine == cu.line) = true:=by rfl) (hs:starEach (e :: es) X.env = (false,eval e X.env) :: starEach es X.env:=by rfl) (LW:(backTo cu (starEach es X.env)).any (·.1) = false:=by rfl) :
    PE X (.Call (.Attribute o name apos) (e :: es) [] cu) (MH X.K T r to t):=by
 intro pins s σ H Q I h;refine wpAny_Call_method_late gK ug gJ rfl (bw (ho pins s σ H _ I h) fun v s1 ⟨x,H1,I1,r1,ty,q1⟩=>?_)
 obtain ⟨h1,h2⟩:=BJ I1 r1 ty;refine ⟨T,id,pa,slot,Fh,h1,h2,?_⟩;have hA:=ha cu pins s1 σ H1 _ I1 q1;rw [hs] at hA ⊢;refine Calls.callWith_builtin (by show (false || (backTo cu (starEach es X.env)).any (·.1)) = false;rw [LW] <;> rfl) (Calls.evalArgs_plain ?_);exact bw hA fun us s2 ⟨vs,H2,I2,r2,q2⟩=>hm pins s2 σ H2 x vs v us Q I2 r1 r2 q2
/- xs.append(e),list.index on a module's tuple .. are Ss facts of 06m -/
end
def O9 (X:Cx) (id:String) (r:V->List V->Hp->VK->Prop):Prop :=
 ∀ (pins:List (Addr × Obj)) (s:Shared) (σ:St) (H:Hp) (x:V) (xs:List V) (v:Value) (us:List Value) (Q:VK),Inv X pins σ H s->RelV x v->Vals xs us->r x xs H Q ->
  wpAny (model X.prog X.w) X.A (call (.builtin id) (v :: us)) (EP X pins σ Q) X.xe s
theorem Vals.one:∀ {x:V} {us:List Value},Vals [x] us->∃ u,us = [u]/\RelV x u
 | _,_,.cons r .nil=>⟨_,rfl,r⟩
theorem Vals.zero:∀ {us:List Value},Vals [] us->us = []
 | _,.nil=>rfl
theorem Vals.rep {xs:List V} {us:List Value} (h:Vals xs us):∀ k:Nat,Vals (List.replicate k xs).flatten (List.replicate k us).flatten
 | 0=>.nil
 | k + 1=>by
  rw [List.replicate_succ,List.replicate_succ,List.flatten_cons,List.flatten_cons];exact Vals.append h (Vals.rep h k)
theorem foldl_rep (its : List Value) : ∀ (k : Nat) (acc : List Value),
    List.foldl (fun x1 x2=>x1 ++ x2) acc.toArray (List.replicate k its.toArray) = (acc ++ (List.replicate k its).flatten).toArray
 | 0,acc=>by simp
 | k + 1,acc=>by
  have e:acc.toArray ++ its.toArray = (acc ++ its).toArray:=by simp
  have e2:(acc ++ its) ++ (List.replicate k its).flatten = acc ++ (List.replicate (k + 1) its).flatten:=by
   rw [List.replicate_succ,List.flatten_cons,List.append_assoc]
  rw [<- e2,<- foldl_rep its k (acc ++ its),<- e,List.replicate_succ,List.foldl_cons]
section
variable {l b:Addr} {ys zs:List V}
theorem Inv.lset {its its' : List Value} {f : Array Value -> Array Value} {t' : Nat} (I : Inv X pins σ H s) (hH : H l = some (.lst xs))
    (e:s.heap.get? l = some { cls:=.type "list",data:=.seq its.toArray n }) (hf:f its.toArray = its'.toArray) (hv:Vals ys its') (hz:ys.length <= sizeLine) :
    Inv X pins σ (upd H l (.lst ys)) { s with heap:=s.heap.update l (Obj.mapSeq f),toks:=t' }:=by
 have q:=PySem.IsL.update e f;rw [hf] at q;refine I.write (x:=l) (e:=l) (by rw [hH];exact trivial) (.inl rfl) (fun b' u hb hu=>(Heap.get?_update_other s.heap (Obj.mapSeq f) (Ne.symm hb)).trans hu) ⟨_,q⟩ ?_
 exact ⟨hz,its',_,hv,q⟩
theorem Inv.lnew {its : List Value} {t' : Nat} (I : Inv X pins σ H s) (hv : Vals ys its) (hz : ys.length <= sizeLine) :
    Inv X pins σ (upd H s.heap.objs.size (.lst ys)) { s with heap:=s.heap.push { cls:=.type "list",data:=.seq its.toArray },toks:=t' } :=
 I.laid (fun _ _ q=>Heap.get?_push_of_some _ q) (Nat.le_refl _) ⟨hz,its,0,hv,Heap.get?_push_size _ rfl⟩
theorem Inv.fresh (I:Inv X pins σ H s):H s.heap.objs.size = none:=I.hok.fresh (Nat.le_refl _)
theorem Inv.lstM (I:Inv X pins σ H s) (hH:H l = some (.lst xs)):xs.length <= sizeLine/\∃ (its:List Value) (n:Nat),Vals xs its/\xs.length = its.length/\s.heap.get? l = some { cls:=.type "list",data:=.seq its.toArray n }:=by
 obtain ⟨z,its,n,r,e⟩:=I.hok l _ hH;exact ⟨z,its,n,r,r.length,e⟩
theorem vL (h:n <= sizeLine):Builtin.List.listTooLong n = false:=by
 unfold Builtin.List.listTooLong;exact decide_eq_false (by omega)
end
section
def tD:V->List V->Hp->VK->Prop:=fun x vs H Q=>∃ l xs y,x = .ref l/\vs = [y]/\H l = some (.lst xs)/\xs.length < sizeLine/\Q .non (upd H l (.lst (xs ++ [y])))
theorem AI:O9 X "list.append" tD:=by
 intro pins s σ H x vs v us Q I rx rv h;obtain ⟨l,xs,y,rfl,rfl,hH,hz,q⟩:=h
 cases rx
 obtain ⟨u,rfl,ru⟩:=rv.one;obtain ⟨z,its,n,r,hl,e⟩:=I.lstM hH;refine call_meets F.slot_list_append ⟨_,e,rfl⟩ F.entry_list_append (F.args_list_append_2 _ _) (PySem.list_append l its.toArray n u (by rw [List.size_toArray];omega)) ⟨e,?_⟩;refine ⟨.non,_,I.lset (its':=its ++ [u]) hH e (by simp) (r.append (.cons ru .nil)) ?_,rfl,q⟩;rw [List.length_append,List.length_singleton];omega
def tq:V->List V->Hp->VK->Prop:=fun x vs H Q=>∃ l b xs zs,x = .ref l/\vs = [.ref b]/\H l = some (.lst xs)/\H b = some (.lst zs)/\xs.length + zs.length <= sizeLine/\Q .non (upd H l (.lst (xs ++ zs)))
theorem AH:O9 X "list.extend" tq:=by
 intro pins s σ H x vs v us Q I rx rv h;obtain ⟨l,b,xs,zs,rfl,rfl,hH,hB,hz,q⟩:=h
 cases rx
 obtain ⟨u,rfl,ru⟩:=rv.one
 cases ru
 obtain ⟨z,its,n,r,hl,e⟩:=I.lstM hH;obtain ⟨z2,gH,n2,r2,WG,e2⟩:=I.lstM hB;have hsz:its.toArray.size + gH.toArray.size <= sizeLine:=by rw [List.size_toArray,List.size_toArray];omega
 have Eg:¬ (!its.toArray.isEmpty && Builtin.List.listTooLong (its.toArray.size + gH.toArray.size)) = true:=by
  rw [vL hsz,Bool.and_false];exact Bool.false_ne_true
 refine call_meets F.slot_list_extend ⟨_,e,rfl⟩ F.entry_list_extend (F.args_list_extend_2 _ _)
  (AutoSeq1.list_extend_list_list_0 l its.toArray n b gH.toArray n2 Eg (by rw [List.size_toArray];omega) (by omega)) ⟨e,e2,?_⟩
 refine ⟨.non,_,I.lset (its':=its ++ gH) hH e (by simp) (r.append r2) ?_,rfl,q⟩;rw [List.length_append];omega
def Ny:R2:=fun x y H Q=>∃ l b xs zs,x = .ref l/\y = .ref b/\H l = some (.lst xs)/\H b = some (.lst zs)/\xs.length + zs.length <= sizeLine/\∀ p,H p = none->Q (.ref p) (upd H p (.lst (xs ++ zs)))
theorem Lj:OpR X (binaryOp .Add) Ny:=by
 intro pins s σ H x y v u Q I rx ry h;obtain ⟨l,b,xs,zs,rfl,rfl,hH,hB,hz,q⟩:=h
 cases rx
 cases ry
 obtain ⟨z,its,n,r,hl,e⟩:=I.lstM hH;obtain ⟨z2,gH,n2,r2,WG,e2⟩:=I.lstM hB;refine PySem.P.add_list e e2 ?_ (by rw [List.size_toArray,List.size_toArray];omega);have ea:its.toArray ++ gH.toArray = (its ++ gH).toArray:=by simp
 rw [ea];exact ⟨.ref _,_,I.lnew (t':=s.toks) (r.append r2) (by rw [List.length_append];omega),rfl,q _ I.fresh⟩
def Nt:R2:=fun x y H Q=>∃ l k xs,x = .ref l/\y = .int k/\H l = some (.lst xs)/\-(2 ^ 63) <= k/\k < 2 ^ 63/\xs.length * k.toNat <= sizeLine /\
 ∀ p,H p = none->Q (.ref p) (upd H p (.lst (List.replicate k.toNat xs).flatten))
theorem len_rep (xs:List α) (k:Nat):(List.replicate k xs).flatten.length = k * xs.length:=by
 induction k with
 | zero=>simp
 | succ k ih=>rw [List.replicate_succ,List.flatten_cons,List.length_append,ih,Nat.succ_mul,Nat.add_comm]
theorem Lg:OpR X (binaryOp .Mult) Nt:=by
 intro pins s σ H x y v u Q I rx ry h;obtain ⟨l,k,xs,rfl,rfl,hH,h1,h2,hz,q⟩:=h
 cases rx
 obtain ⟨t,rfl⟩:=ry;obtain ⟨z,its,n,r,hl,e⟩:=I.lstM hH;have hlen:its.toArray.size * k.toNat <= sizeLine:=by rw [List.size_toArray,<- hl];exact hz
 have RG:¬ its.toArray.size * k.toNat > (2 ^ 63 - 1) / 8:=by
  have:(sizeLine:Nat) <= (2 ^ 63 - 1) / 8:=by decide
  omega
 have Rw:¬ (!Builtin.List.listFitsIndex k) = true:=by
  rw [fitsIndex_both h1 h2];exact Bool.false_ne_true
 have Eg:¬ Builtin.List.listTooLong (its.toArray.size * k.toNat) = true:=by
  rw [vL hlen];exact Bool.false_ne_true
 have Rl:List.foldl (fun x1 x2=>x1 ++ x2) #[] (List.replicate (if its.toArray.isEmpty = true then 0 else k.toNat) its.toArray) = (List.replicate k.toNat its).flatten.toArray:=by
  have f0:∀ m:Nat,List.foldl (fun x1 x2=>x1 ++ x2) #[] (List.replicate m its.toArray) = (List.replicate m its).flatten.toArray:=fun m=>by
   have:=foldl_rep its m [];rw [List.nil_append] at this;exact this
  rw [f0]
  cases its with
  | nil=>simp
  | cons a r'=>rw [if_neg (by simp)]
 refine wpAny_binaryOp_repeat_ref (T:="list") (U:="int") (by decide) ⟨_,e,rfl⟩ (fun s'=>typeIs_int s' k t) noFill_list_mul F.fills_int_mul F.slot_int_rmul repeat_list F.slot_int_index.lookup
  (call_meets F.slot_int_rmul (typeIs_int s k t) F.entry_int_rmul (F.args_int_rmul_2 _ _) (int___rmul___int_list k t l its.toArray n)
   ⟨e,rfl,⟨_,e,rfl⟩,call_meets F.slot_list_mul ⟨_,e,rfl⟩ F.entry_list_mul (F.args_list_mul_2 _ _) (AutoListH.list___mul___list_int_3 l its.toArray n k t Rw RG Eg) ⟨e,?_⟩⟩)
 rw [Rl];exact ⟨.ref _,_,I.lnew (t':=s.toks) (r.rep k.toNat) (by rw [len_rep,Nat.mul_comm];exact hz),rfl,q _ I.fresh⟩
end
end L2
namespace Att
open PySem PySem.W PySem.Calls PyProof.Rows
theorem m9 {P:Params} {h:Heap}:∀ (ns:List Int) (vs:List Value),WellAll P h vs (ns.map WData.int)->IntsAre vs ns:=by
 intro ns
 induction ns with
 | nil =>
  intro vs w;rw [List.map_nil] at w
  cases w
  exact .nil
 | cons n ns ih =>
  intro vs w;rw [List.map_cons] at w
  cases w with
  | cons a b =>
   cases a
   exact .cons _ _ (ih _ b)
theorem Ah {l : OpenLaw} {n : Nat} (hn : l.most = some n) {P : Params} {h : Heap} {args : List WData} {vals : List Value}
    (Ec:l.row.toRowW.claim.pre args = true) (Jr:WellAll P h vals args) :
    ∃ a vs ns,vals = [Value.ref a]/\args = [WData.list (ns.map WData.int)]/\h.get? a = some { cls:=.type "list",data:=.seq vs.toArray }/\IntsAre vs ns/\ns.length <= n:=by
 have Wh:WShape.hasAll [] args [.list .int] = true:=(pre_splitW Ec).1;have hc:l.pre.holds [] { args:=args } = true:=(pre_splitW Ec).2;obtain ⟨d,r,rfl,h1,h2⟩:=hasAllW_cons Wh;obtain rfl:=hasAllW_nil h2;obtain ⟨xs,rfl,h3⟩:=hasW_list h1;obtain ⟨ns,rfl⟩:=items_int h3;have hlen:ns.length <= n:=by
  unfold OpenLaw.pre at hc;have h4:(WTm.not (.lt (.lit (.int (n:Int))) (.len (.arg 0)))).holds [] { args:=[.list (ns.map .int)] } = true:=by
   have h4:=(holds_andW hc).1;rw [hn] at h4;exact h4
  have h5:=condW_of h4 (w_not (w_lt w_lit (w_len_list (w_arg rfl))));rw [List.length_map] at h5;refine Nat.le_of_not_lt fun q=>?_
  have q':(n:Int) < ((ns.length:Nat):Int):=by omega
  first
   | (rw [decide_eq_true q'] at h5;exact absurd h5 (by decide))
   | (simp at h5;omega)
 cases Jr with
 | cons w1 w2 =>
  cases w2
  cases w1 with
  | list ho RO=>exact ⟨_,_,ns,rfl,rfl,ho,m9 ns _ RO,hlen⟩
theorem Aq (l:OpenLaw) (args:List WData):l.row.toRowW.claim.post args (.bool true) args = true :=
 postW_of (r:=l.row.toRowW) (X:=(true == true))
  (show WShape.has [] (.bool true) .bool = true by first | rfl | decide | simp [WShape.has,WShape.arms,WShape.armsAll])
  (show (WTm.eq .res (.lit (.bool true))).value [] { args:=args,res:=some (.bool true),after:=args } = some (.bool (true == true)) from w_eq_bool (w_res rfl) w_lit) rfl
theorem attach_call {l : OpenLaw} {n : Nat} {q : Program} {loose : List Str} {XP : (Str -> Option Value) -> Heap -> Prop} {YP : World -> Heap -> Prop} {d : DefRec}
    (hn:l.most = some n) (OB:d.params.defaults = [])
    (call:∀ (w:World) (s₀ s₁:Shared) (mg mb:Str->Option Value) (fa:Addr) (o:Obj) (pm cd doc:Value) (a:Addr) (vs:List Value) (ns:List Int),
     Ground q loose [] XP w s₀ mg mb s₁.heap->YP w s₁.heap ->
     s₁.heap.get? fa = some o->o.data = .func (docDef d.name d.params d.body d.scope pm cd doc)->s₁.heap.CodeRec cd d.name->mg d.name = some (.ref fa) ->
     s₁.heap.get? a = some { cls:=.type "list",data:=.seq vs.toArray }->IntsAre vs ns->ns.length <= n->s₁.gens = #[] ->
     codeAny (model l.prog w) callerA (.call (.ref fa) ⟨[.ref a],[]⟩) (fun r s'=>r = .ok (.ret (.bool true))/\OldK s₁.heap s'.heap/\s'.os = s₁.os/\AllBare s'.gens) s₁) :
    WalkO q loose XP YP l.row.toRowW d [] (fun f vs=>PySem.call f vs):=by
 intro w s₀ s₁ mg mb G Y fa o pm cd doc dV kV ho hd jF hD Ol hg args vals as Ec WD Z4 Jr PR;obtain rfl:dV = .none:=Dflts.none hD OB;obtain rfl:kV = .none:=Dflts.noKw hD;obtain ⟨a,vs,ns,rfl,rfl,LZ,hints,hlen⟩:=Ah hn Ec Jr;refine enter_call (codeAny_mono (call w s₀ s₁ mg mb fa o pm cd doc a vs ns G Y ho (fd_plain hd) jF Ol LZ hints hlen hg) fun r s' hq=>?_)
 obtain ⟨rfl,h2,h3,h4⟩:=hq;exact ⟨.inl ⟨.bool true,.bool true,[],rfl,fun _=>rfl,.bool true,Aq l _,fun _=>⟨List.Pairwise.nil,fun _ hm=>(nomatch hm)⟩⟩,h2,h3,h4⟩
end Att
namespace L2
open PySem PySem.Spec PyProof.Rows
variable {x qual:Str} {st:Stmt} {f:Addr} {H:Hp}
theorem qU:∀ {vs:List Value} {ns:List Int},IntsAre vs ns->Vals (ns.map V.int) vs
 | _,_,.nil=>.nil
 | _,_,.cons n t h=>.cons ⟨t,rfl⟩ (qU h)
def inClass (s:Stmt) (j:Nat):Stmt:=match s with
 | .ClassDef _ _ _ body _ _ _ _ _ _ _=>body.getD j (.Pass ⟨0,0,0,0⟩)
 | _=>.Pass ⟨0,0,0,0⟩
def cD (s:Stmt):Arguments:=match s with
 | .FunctionDef _ a _ _ _ _ _ _ _ _=>a
 | _=>{ posonlyargs:=[],args:=[],vararg:=none,kwonlyargs:=[],kw_defaults:=[],kwarg:=none,defaults:=[] }
def aS (s:Stmt):List Stmt:=match s with
 | .FunctionDef _ _ b _ _ _ _ _ _ _=>b
 | _=>[]
def ab (s:Stmt):Scope:=match s with
 | .FunctionDef _ _ _ _ _ _ sc _ _ _=>sc
 | _=>{ kind:=.function,names:=[],isGenerator:=false,isCoroutine:=false }
abbrev bR:E9:=fun _ _ _ _ _ _=>False
abbrev E0:XK:=fun _ _ _=>False
theorem aR {X:Cx}:Passes bR X E0:=fun _ _ _ _ _ _ _ h=>h.elim
structure Fun (K:W.Frag) (x qual:Str) (st:Stmt) (f:Addr) (fd:FuncData):Prop where
 ex:∃ (oc:Value) (od:Option Addr) (kV doc pm:Value) (an:Option Addr) (aT ct:Value) (yl:Array (Option Value)),
  fd = W.fnOf x qual (cD st) (aS st) (ab st) .none kV doc pm an aT ct/\K.lookup f = some ⟨oc,od,.func fd,yl⟩/\W.codeIn K aT qual = true
 kp:W.keepIn K (.ref f) = true
section
variable {P:Program} {w:World} {K:W.Frag} {mg:Str->Option Value} {base:Heap}
theorem Fun.ok {fd : FuncData} {N ps : List Str} {k : Nat} {sp : Sp} (F : Fun K x qual st f fd) (S : ao N ps (ab st)) (len : ∀ vs H Q E, sp vs H Q E -> vs.length = ps.length)
    (du:∀ (aT:Value) (A:Around) (outer:List Env) (s:Shared) (H:Hp) (vs:List V) (Q:VK) (E:XK),Room k (A.deeper (envOfC qual (ab st) s.heap.objs.size f aT))->sp vs H Q E ->
     ∃ t,PSs (gc bR P w K mg base N qual (ab st) f aT A outer s H E).nox (aS st) t/\t { nx:=fun _ H'=>Q .non H',rt:=Q } (start N vs) H):FnOk P w K mg base bR (k + 1) f fd ps sp:=by
 obtain ⟨oc,od,kV,doc,pm,an,aT,ct,yl,rfl,lk,jF⟩:=F.ex;refine Ep lk jF S len fun A outer s H vs Q E hr we=>?_
 obtain ⟨t,h,q⟩:=du aT A outer s H vs Q E hr we;exact ⟨t,h.nox,q⟩
theorem Fun.binds {fd : FuncData} {ps : List Str} (F : Fun K x qual st f fd)
    (h:∀ (kV doc pm:Value) (an:Option Addr) (aT ct:Value) (us:List Value),us.length = ps.length->bindArgs (W.fnOf x qual (cD st) (aS st) (ab st) .none kV doc pm an aT ct) ⟨us,[]⟩ = pure (ps.zip us)):Binds K fd ps []:=by
 obtain ⟨oc,od,kV,doc,pm,an,aT,ct,yl,rfl,lk,jF⟩:=F.ex;exact .all (h kV doc pm an aT ct)
theorem fun_mk {oc : Value} {od an : Option Addr} {yl : Array (Option Value)} {kV doc pm aT ct : Value} (l : K.lookup f = some ⟨oc, od, .func (W.fnOf x qual (cD st) (aS st) (ab st) .none kV doc pm an aT ct), yl⟩)
    (c:W.codeIn K aT qual = true) (k:W.keepIn K (.ref f) = true):Fun K x qual st f (W.fnOf x qual (cD st) (aS st) (ab st) .none kV doc pm an aT ct):=⟨⟨oc,od,kV,doc,pm,an,aT,ct,yl,rfl,l,c⟩,k⟩
end
theorem rR {A:Around} {k:Nat} (hr:Room k A):A.units + 1 < cLine:=Nat.lt_of_le_of_lt (Nat.add_le_add_left (by decide:1 <= 64) _) hr.units
section
variable {X:Cx}
theorem pv (i : Nat) {pos : Pos} (hN : X.N[i]? = some x := by rfl) (hv : P4 X.env.scope x := by first | exact Or.inl rfl | exact Or.inr (Or.inl rfl) | exact Or.inr (Or.inr rfl)) (hd : (x == ("__debug__" : Str)) = false := by decide)
    (jF:(x == ("__classdict__":Str)) = false:=by decide):PE X (.Name x pos) (cn i):=K4 hN hv hd jF
end
theorem QU {A B:Prop} (h:B):if false = true then A else B:=by
 rw [if_neg Bool.false_ne_true];exact h
theorem QT {A B:Prop} (h:A):if true = true then A else B:=by
 rw [if_pos rfl];exact h
theorem QV {c A B:Prop} [Decidable c] (h1:c->A) (h2:¬ c->B):if c then A else B:=by
 by_cases h:c
 ·rw [if_pos h];exact h1 h
 ·rw [if_neg h];exact h2 h
def Same (H H':Hp):Prop:=∀ b o,H b = some o->H' b = some o
theorem Same.refl (H:Hp):Same H H:=fun _ _ h=>h
theorem Same.trans {H1 H2:Hp} (a:Same H H1) (b:Same H1 H2):Same H H2:=fun c o h=>b c o (a c o h)
theorem Same.free {H':Hp} (e:Same H H') {l:Addr} (h:H' l = Option.none):H l = Option.none:=by
 cases q:H l with
 | none=>rfl
 | some o =>
  rw [e l o q] at h
  cases h
theorem Same.seq {K:W.Frag} {H':Hp} {a:Addr} {xs:List V} (e:Same H H') (h:SqL K H a xs):SqL K H' a xs:=by
 rcases h with (h | ⟨o,h⟩) | h
 ·exact .inl (.inl (e _ _ h))
 ·exact .inl (.inr ⟨o,e _ _ h⟩)
 ·exact .inr h
end L2
set_option maxHeartbeats 4000000
namespace L2
open PySem PySem.Spec PyProof.Rows
variable {P:Program} {w:World} {A:Around} {X:Cx} {scope:Scope} {env:Env} {x:Str} {s:Shared} {pos:Pos} {pins:List (Addr × Obj)} {σ:St} {H H':Hp} {C b a:Addr} {fp:List Addr} {h':Heap} {v y:V} {o:Option V} {u:Value} {kvs:List (List Key × V)} {xs:List (List Key × Addr × Value)}
def P9 (x:Str):It:=⟨fun i _=>i < x.cps.size,fun i H v H'=>H' = H/\∃ c,x.cps[i]? = some c/\v = .str ⟨#[c]⟩,fun i _=>i = x.cps.size⟩
theorem nL (hh : A.handled = none) (it : Addr) (x : Str) (t : Tok) {ty : String} (Fh : ty = "str_ascii_iterator" \/ ty = "str_iterator") :
    Walks P w A it [it] [it] x.cps.size (SignAt x) (fun i h=>h.IsStrIter it ty x t i):=by
 rcases Fh with rfl | rfl
 ·exact Walks.strAscii hh it x t
 ·exact Walks.strWide hh it x t
theorem BL {K : W.Frag} {tg : Expr} (x : Str) (t : Tok) (it : Addr) {ty : String} (Fh : ty = "str_ascii_iterator" \/ ty = "str_iterator") :
    Turn P w K tg (P9 x) [it] it (fun i h=>h.IsStrIter it ty x t i) where
 mem:=by simp
 obj:=fun i h st b hb=>by
  have e:b = it:=by simpa using hb
  subst e;obtain ⟨o,e,c,d⟩:=st;exact ⟨o,e,fun v z=>by rw [d] at z;cases z⟩
 keep:=fun i h h' st k=>let ⟨o,e,r⟩:=st;⟨o,k it (by simp) o e,r⟩
 item:=by
  intro X hP hw hK hc i pins s σ H E I hf st hg;subst hP hw hK;obtain ⟨f0,f1,f2,f3,f4,f5⟩:=hf it (by simp);refine (nL (I.ok.hd hc) it x t Fh).item i s _ _ hg st fun v h' tk hv aO kk=>?_
  obtain ⟨c,u,hx,rfl⟩:=hv;have I1:Inv X pins σ H { s with heap:=h',toks:=tk }:=I.turned (fun b o hb e=>kk b o (by simpa using hb) e) f0 f1 f3 f4 f5
  obtain ⟨o,e,cc,d⟩:=id aO;refine ⟨_,rfl,wx (s:={ s with heap:=h',toks:=tk }) e cc d ?_ ⟨.str ⟨#[c]⟩,H,I1,⟨u,rfl⟩,⟨rfl,c,hx,rfl⟩,aO,fun b hb=>(hf b hb).1⟩⟩
  rcases Fh with rfl | rfl <;> decide
 done:=by
  intro X hP hw hK hc i pins s σ H E I hf st hg;subst hP hw hK;obtain ⟨f0,f1,f2,f3,f4,f5⟩:=hf it (by simp);have Fl:i = x.cps.size:=hg;subst Fl;exact (nL (I.ok.hd hc) it x t Fh).done s _ _ st fun h' tk kk=>⟨rfl,I.turned (fun b o hb e=>kk b o (by simpa using hb) e) f0 f1 f3 f4 f5⟩
 self:=fun A i s Q E st h=>by
  rcases Fh with rfl | rfl
  ·exact wpAny_pyIter_striter_ascii st h
  ·exact wpAny_pyIter_striter_wide st h
section
variable {tg:Expr}
def LM (tl:TE):TI:=fun σ H R=>tl σ H fun x H1=>∃ z,x = .str z/\R (P9 z) H1
theorem K3 {l:Expr} {tl:TE} (hl:PE X l tl):PI X tg l (LM tl):=by
 intro pins s σ H R I h;refine bw (hl pins s σ H _ I h) fun v s1 ⟨x,H1,I1,r1,q1⟩=>?_
 obtain ⟨z,e,q⟩:=q1;subst e;obtain ⟨t,rfl⟩:=r1;refine wpAny_pyIter_strU ?_;refine ⟨s1.heap.objs.size,[s1.heap.objs.size],_,_,H1,rfl,I1.kept (t':=s1.toks) fun b o e=>Heap.get?_push_of_some _ e,BL z t _ (ty:=strIterType z) (by unfold strIterType;split <;> simp),⟨_,Heap.get?_push_size _ rfl,rfl,rfl⟩,fun b hb=>?_,q⟩
 have e:b = s1.heap.objs.size:=by simpa using hb
 subst e;exact I1.fpOk (Nat.le_refl _) (I1.hok.fresh (Nat.le_refl _))
end
def pick (ix:List Nat) (σ:St):St:=ix.map fun i=>(σ[i]?).join
def gh (scope:Scope) (env:Env):List (Str × Addr):=scope.names.foldl (fun cs y=>if y.2 == .free then (y.1,(env.cells.lookup y.1).getD 0) :: cs else cs) []
theorem wN (env : Env) : ∀ (l : List (Str × NameKind)) (acc : List (Str × Addr)) (p : Str × Addr), p ∈ l.foldl (fun cs y => if y.2 == NameKind.free then (y.1, (env.cells.lookup y.1).getD 0) :: cs else cs) acc ->
    p ∈ acc \/ ((p.1,NameKind.free) ∈ l/\p.2 = (env.cells.lookup p.1).getD 0)
 | [],_,_,h=>.inl h
 | y :: l,acc,p,h=>by
  rw [List.foldl_cons] at h
  rcases wN env l _ p h with h1 | h1
  ·by_cases hy:(y.2 == NameKind.free) = true
   ·rw [if_pos hy] at h1
    rcases List.mem_cons.mp h1 with e | e
    ·refine .inr ⟨?_,by rw [e]⟩;have hk:y.2 = NameKind.free:=by simpa using hy
     rw [e,<- hk];exact List.mem_cons_self
    ·exact .inl e
   ·rw [if_neg hy] at h1;exact .inl h1
  ·exact .inr ⟨List.mem_cons_of_mem _ h1.1,h1.2⟩
theorem wQ (env:Env):∀ (l:List (Str × NameKind)) (acc:List (Str × Addr)) (p:Str × Addr),p ∈ acc->p ∈ l.foldl (fun cs y=>if y.2 == NameKind.free then (y.1,(env.cells.lookup y.1).getD 0) :: cs else cs) acc
 | [],_,_,h=>h
 | y :: l,acc,p,h=>by
  rw [List.foldl_cons];apply wQ env l
  split
  ·exact List.mem_cons_of_mem _ h
  ·exact h
theorem wO (env:Env):∀ (l:List (Str × NameKind)) (acc:List (Str × Addr)) (x:Str),(x,NameKind.free) ∈ l->∃ c,(x,c) ∈ l.foldl (fun cs y=>if y.2 == NameKind.free then (y.1,(env.cells.lookup y.1).getD 0) :: cs else cs) acc
 | [],_,_,h=>nomatch h
 | y :: l,acc,x,h=>by
  rw [List.foldl_cons]
  rcases List.mem_cons.mp h with e | e
  ·subst e;refine ⟨(env.cells.lookup x).getD 0,wQ env l _ _ ?_⟩;rw [if_pos (by rfl)];exact List.mem_cons_self
  ·exact wO env l _ x e
theorem eO {α:Type}:∀ {l:List (Str × α)} {x:Str} {c:α},(x,c) ∈ l->∃ d,l.lookup x = some d
 | [],_,_,h=>nomatch h
 | (y,d) :: l,x,c,h=>by
  by_cases hx:(x == y) = true
  ·exact ⟨d,by simp [List.lookup_cons,hx]⟩
  ·have Ea:(x == y) = false:=by simpa using hx
   rcases List.mem_cons.mp h with e | e
   ·cases e
    simp at hx
   ·obtain ⟨d',e'⟩:=eO e;exact ⟨d',by simp [List.lookup_cons,Ea,e']⟩
theorem aQ (hf:∀ y ∈ scope.names,y.2 = .free->∃ c,env.cells.lookup y.1 = some c) {c:Addr} (h:(gh scope env).lookup x = some c):env.cells.lookup x = some c:=by
 rcases wN env scope.names [] (x,c) (PySem.mem_of_lookup h) with e | ⟨e1,e2⟩
 ·exact nomatch e
 ·obtain ⟨d,hd⟩:=hf _ e1 rfl;have A':env.cells.lookup x = some d:=hd;have e3:c = (env.cells.lookup x).getD 0:=e2;rw [A'] at e3 ⊢;rw [e3]
  rfl
theorem ju (h:scope.names.lookup x = some .free):∃ c,(gh scope env).lookup x = some c:=by
 obtain ⟨c,hc⟩:=wO env scope.names [] x (PySem.mem_of_lookup h);exact eO hc
theorem gg (hf:∀ y ∈ scope.names,y.2 = .free->∃ c,env.cells.lookup y.1 = some c):closureFor scope env = pure (gh scope env):=by
 have all : ∀ (l : List (Str × NameKind)) (acc : List (Str × Addr)), (∀ y ∈ l, y.2 = .free -> ∃ c, env.cells.lookup y.1 = some c) ->
     (forIn l acc fun (x:Str × NameKind) (r:List (Str × Addr))=>if (x.2 == NameKind.free) = true then (do let a <- cellOf env x.1;pure (ForInStep.yield ((x.1,a) :: r))) else pure (ForInStep.yield r):Sem (List (Str × Addr))) =
      pure (l.foldl (fun cs y=>if y.2 == .free then (y.1,(env.cells.lookup y.1).getD 0) :: cs else cs) acc):=by
  intro l
  induction l with
  | nil=>intro acc _;rfl
  | cons y l ih =>
   intro acc h;rw [List.forIn_cons,List.foldl_cons]
   by_cases hy:(y.2 == NameKind.free) = true
   ·obtain ⟨c,hc⟩:=h y List.mem_cons_self (by simpa using hy);rw [if_pos hy,if_pos hy];have e:cellOf env y.1 = pure c:=by unfold cellOf;rw [hc]
    rw [e,hc];exact ih _ fun z hz=>h z (List.mem_cons_of_mem _ hz)
   ·rw [if_neg hy,if_neg hy];exact ih _ fun z hz=>h z (List.mem_cons_of_mem _ hz)
 show ((forIn scope.names [] fun (x:Str × NameKind) (r:List (Str × Addr))=>if (x.2 == NameKind.free) = true then (do let a <- cellOf env x.1;pure (ForInStep.yield ((x.1,a) :: r))) else pure (ForInStep.yield r):Sem (List (Str × Addr))) >>= fun r=>pure r) = _
 rw [all scope.names [] hf]
 rfl
structure LcScope (scope:Scope) (x:Str) (fv:List Str) (osc:Scope):Prop where
 kind:scope.kind = .function
 nocell:∀ y ∈ scope.names,y.2 ≠ .cell
 names:∀ y ∈ scope.names,y.2 = .local->scope.names.lookup y.1 = some .local
 tgt:scope.names.lookup x = some .local
 free:∀ y ∈ scope.names,y.2 = .free->osc.names.lookup y.1 = some .cell \/ osc.names.lookup y.1 = some .free
 fvs:∀ y ∈ fv,scope.names.lookup y = some .free
 nd:(x :: fv).Nodup
theorem g9 {scope : Scope} {env : Env} : ∀ {names : List (Str × NameKind)} {x : Str}, names.lookup x = some .free ->
    (names.map fun (n,k)=>if (k == NameKind.free && env.scope.kind == .function && env.kindOf n == some .cell) then (n,NameKind.cell) else (n,k)).lookup x = some .cell \/
    (names.map fun (n,k)=>if (k == NameKind.free && env.scope.kind == .function && env.kindOf n == some .cell) then (n,NameKind.cell) else (n,k)).lookup x = some .free
 | [],_,h=>by simp at h
 | (n,k) :: r,x,h=>by
  have ih:=@g9 scope env r x;show List.lookup x ((if (k == NameKind.free && env.scope.kind == .function && env.kindOf n == some .cell) = true then (n,NameKind.cell) else (n,k)) :: _) = _ \/ List.lookup x ((if (k == NameKind.free && env.scope.kind == .function && env.kindOf n == some .cell) = true then (n,NameKind.cell) else (n,k)) :: _) = _
  cases hx:x == n with
  | true =>
   simp only [List.lookup_cons,hx] at h
   cases h
   by_cases hc:(NameKind.free == NameKind.free && env.scope.kind == .function && env.kindOf n == some .cell) = true
   ·rw [if_pos hc];left;simp [List.lookup_cons,hx]
   ·rw [if_neg hc];right;simp [List.lookup_cons,hx]
  | false =>
   simp only [List.lookup_cons,hx] at h
   by_cases hc:(k == NameKind.free && env.scope.kind == .function && env.kindOf n == some .cell) = true
   ·rw [if_pos hc];simp only [List.lookup_cons,hx];exact ih h
   ·rw [if_neg hc];simp only [List.lookup_cons,hx];exact ih h
theorem hU {env : Env} : ∀ {names : List (Str × NameKind)} {x : Str}, (∀ y ∈ names, y.2 ≠ NameKind.cell) ->
    ((names.map fun (n,k)=>if (k == NameKind.free && env.scope.kind == .function && env.kindOf n == some .cell) then (n,NameKind.cell) else (n,k)).lookup x = some .cell \/
    (names.map fun (n,k)=>if (k == NameKind.free && env.scope.kind == .function && env.kindOf n == some .cell) then (n,NameKind.cell) else (n,k)).lookup x = some .free)->names.lookup x = some .free
 | [],_,_,h=>by simp at h
 | (n,k) :: r,x,hn,h=>by
  have ih:=@hU env r x fun y hy=>hn y (List.mem_cons_of_mem _ hy)
  have hk:=hn (n,k) List.mem_cons_self;change List.lookup x ((if (k == NameKind.free && env.scope.kind == .function && env.kindOf n == some .cell) = true then (n,NameKind.cell) else (n,k)) :: _) = _ \/ List.lookup x ((if (k == NameKind.free && env.scope.kind == .function && env.kindOf n == some .cell) = true then (n,NameKind.cell) else (n,k)) :: _) = _ at h
  cases hx:x == n with
  | true =>
   by_cases hc:(k == NameKind.free && env.scope.kind == .function && env.kindOf n == some .cell) = true
   ·have hf:k = NameKind.free:=by
     rw [Bool.and_eq_true,Bool.and_eq_true] at hc;simpa using hc.1.1
    subst hf;simp [List.lookup_cons,hx]
   ·rw [if_neg hc] at h;simp only [List.lookup_cons,hx] at h ⊢
    rcases h with h | h
    ·cases h;exact absurd rfl hk
    ·exact h
  | false =>
   by_cases hc:(k == NameKind.free && env.scope.kind == .function && env.kindOf n == some .cell) = true
   ·rw [if_pos hc] at h;simp only [List.lookup_cons,hx] at h ⊢;exact ih h
   ·rw [if_neg hc] at h;simp only [List.lookup_cons,hx] at h ⊢;exact ih h
def Cx.comp (X:Cx) (scope:Scope) (N':List Str) (C:Addr) (s₀:Shared) (H₀:Hp) (ex:List Addr):Cx where
 prog:=X.prog
 w:=X.w
 K:=X.K
 mg:=X.mg
 base:=X.base
 A:=X.A
 N:=N'
 s₀:=s₀
 H₀:=H₀
 env:=compEnvC scope (gh scope X.env) C X.env
 outer:=X.stack
 stack:=X.stack
 ex:=ex
 fn:=fun _=>false
 calm:=X.calm
 pn:=[]
 xe:=fun _ _=>False
def Bv (X:Cx) (ifs:List Expr) (t:TT):Prop :=
 ∀ (pins:List (Addr × Obj)) (s:Shared) (σ:St) (H:Hp) (Q:Bool->Hp->Prop),Inv X pins σ H s->t σ H Q ->
  wpAny (model X.prog X.w) X.A (forIn ifs true fun c r=>if r = true then do let ok <- isTrue c X.env (eval c X.env);pure (ForInStep.yield ok) else pure (ForInStep.yield r)) (TP X pins σ Q) X.xe s
def zZ:TT:=fun _ H Q=>Q true H
theorem Dt:Bv X [] zZ:=fun _ _ _ H _ I h=>wpAny_tests_nil ⟨H,I,h⟩
theorem Ds {c:Expr} {t:TT} (h:PT X c t):Bv X [c] t:=fun pins s σ H Q I q=>wpAny_tests_one (h pins s σ H Q I q)
def MD (J:It) (ix:List Nat) (σ:St) (tt:TT) (te:TE) (Q:VK) (H1:Hp):Prop:=∃ W:Nat->Nat->List V->Hp->Prop,(∃ m,W 0 m [] H1)/\∀ i m ys H2,W i m ys H2 ->
 (J.stop i H2/\∀ D,H2 D = none->Q (.ref D) (upd H2 D (.lst ys))) \/
 (J.go i H2/\ys.length < sizeLine/\∀ x H3,J.yld i H2 x H3->tt (some x :: pick ix σ) H3 fun b H4=>if b = true then te (some x :: pick ix σ) H4 fun y H5=>∃ m',m' < m/\W (i + 1) m' (ys ++ [y]) H5 else ∃ m',m' < m/\W (i + 1) m' ys H4)
def Ng (ix:List Nat) (wi:TI) (tt:TT) (te:TE):TE:=fun σ H Q=>wi σ H fun J H1=>MD J ix σ tt te Q H1
theorem cf {prog : Program} {R : Result -> Shared -> Prop} {elt target iter : Expr} {ifs : List Expr} {it acc : Value} (I : Nat -> Shared -> Prop)
    (turn:∀ n s,I n s->wpAny (model prog w) A (pyNext it) (fun r s₁=>match r with
     | none=>R (.ok .next) s₁
     | some v => wpAny (model prog w) A (letOwnedTupleGo target it v) (fun _ s₁ => wpAny (model prog w) A (assign target env v) (fun _ s₂ =>
         wpAny (model prog w) A (forIn ifs true fun c r=>if r = true then do let ok <- isTrue c env (eval c env);pure (ForInStep.yield ok) else pure (ForInStep.yield r)) (fun ok s₃ =>
          if ok = true then wpAny (model prog w) A (eval elt env) (fun x s₄ =>
           wpAny (model prog w) A (call (.builtin "list.append") [acc,x]) (fun _ s₅=>∃ m,m < n/\I m s₅) (fun _ _=>False) s₄) (fun _ _=>False) s₃
          else ∃ m,m < n/\I m s₃) (fun _ _=>False) s₂) (fun _ _=>False) s₁) (fun _ _=>False) s₁) (fun _ _=>False) s)
    (n:Nat) (h:I n s) :
    codeAny (model prog w) A (.compLoop (.ListComp elt [⟨target,iter,ifs,0⟩] scope pos) 0 it acc env) R s:=by
 refine codeAny_loop rfl I (fun n s hI=>?_) n h;show wpAny _ A ((compTurn (.ListComp elt [⟨target,iter,ifs,0⟩] scope pos) 0 it acc env).onRaise (fun x=>do noteFrame x env;theTreesLotGoes x)) _ _ s;refine wpAny_noted ?_;rw [compTurn_list];refine wpAny_bind (wpAny_standAt (wpAny_bind (wpAny_mono (turn n s hI) (fun r s₁ h₁=>?_) fun _ _ h'=>h'.elim)))
 cases r with
 | none=>exact wpAny_pure h₁
 | some v =>
  refine wpAny_bind (wpAny_mono h₁ (fun _ Sy N8=>?_) fun _ _ h'=>h'.elim)
  refine wpAny_bind (wpAny_mono N8 (fun _ s₂ h₂=>wpAny_bind (wpAny_mono h₂ (fun ok s₃ h₃=>?_) fun _ _ h'=>h'.elim)) fun _ _ h'=>h'.elim)
  cases ok with
  | false=>exact wpAny_pure ⟨rfl,h₃⟩
  | true =>
   exact wpAny_bind (wpAny_bind (wpAny_mono h₃ (fun x s₄ h₄=>wpAny_bind (wpAny_mono h₄ (fun _ s₅ h₅=>wpAny_pure (wpAny_pure ⟨rfl,h₅⟩)) fun _ _ h'=>h'.elim)) fun _ _ h'=>h'.elim))
section
variable {fv:List Str} {ix:List Nat}
theorem LcScope.cells (S:LcScope scope x fv X.env.scope) (ok:X.Ok):∀ y ∈ scope.names,y.2 = .free->∃ c,X.env.cells.lookup y.1 = some c:=fun y hy hf=>by
 rcases S.free y hy hf with e | e
 ·exact ok.has y.1 (.inl e)
 ·exact ok.has y.1 (.inr e)
theorem Io (S : LcScope scope x fv X.env.scope) (I : Inv X pins σ H s) (hC : s.heap.objs.size <= C) (f2 : ∀ b ∈ fp, FpOk X pins H b) (fl : ∀ b ∈ fp, b < s.heap.objs.size) :
    (X.comp scope (x :: fv) C s H fp).Ok:=by
 have jZ:=S.cells I.ok;refine ⟨I.ok.mod,S.kind,I.ok.glob,I.ok.blt,hC,fun y z c h1 h2=>I.ok.inj y z c (aQ jZ h1) (aQ jZ h2),fun y hy=>?_,fun y c Ma _=>absurd (show false = true from Ma) (by decide),I.ok.hd,I.ok.frames,.inl rfl,
  fun b hb=>⟨Nat.ne_of_lt (Nat.lt_of_lt_of_le (fl b hb) hC),fun y c h1=>(f2 b hb).2.2.2.2.1 y c (aQ jZ h1)⟩,I.bs,Nat.le_trans I.ok.bsz I.sz,fun b o e hb=>?_,fun b hb hs=>?_,I.stack,I.stkFree⟩
 ·exact ju (hU S.nocell hy)
 ·rcases (f2 b hb).2.2.2.1 with z | z
  ·exact I.ok.noex b o e z
  ·exact absurd (Nat.lt_of_lt_of_le (Heap.lt_size (I.ok.bs b o e).1) z) (Nat.lt_irrefl _)
 ·rcases List.mem_cons.mp (I.stkSub b hs) with z | z
  ·exact (f2 b hb).2.1 z
  ·exact (f2 b hb).2.2.1 z
end
section
variable {fv:List Str} {ix:List Nat}
def lobj (its:List Value) (n:Nat):Obj:={ cls:=.type "list",data:=.seq its.toArray n }
theorem pG {D : Addr} {h₁ : Heap} {m : Str -> Option Value} {tk n : Nat} (S : LcScope scope x fv X.env.scope) (wm : ix.map (fun i => X.N[i]?) = fv.map some) (I : Inv X pins σ H s)
    (hD:s.heap.objs.size <= D) (Bf:D ≠ C) (hC:s.heap.objs.size <= C) (f2:∀ b ∈ fp,FpOk X pins H b) (fl:∀ b ∈ fp,b < s.heap.objs.size)
    (MT:h₁.Ns C m) (old:∀ b o,s.heap.get? b = some o->h₁.get? b = some o) (kL:h₁.get? D = some (lobj [] n)) :
    Inv (X.comp scope (x :: fv) C s H fp) [(D,lobj [] n)] (none :: pick ix σ) H { s with heap:=h₁,toks:=tk }:=by
 have jZ:=S.cells I.ok;refine ⟨Io S I hC f2 fl,rfl,I.bare,Un.kept old,⟨m,MT,fun i y v h1 h2 h3=>?_⟩,fun y c h1=>?_,I.hok.fresh hC,fun y c h1=>I.freeC y c (aQ jZ h1),fun p hp=>?_,I.hok.kept old,?_⟩
 ·cases i with
  | zero=>simp at h2
  | succ i =>
   have js:fv[i]? = some y:=by simpa [Cx.comp] using h1
   have h2':(pick ix σ)[i]? = some (some v):=by simpa using h2
   unfold pick at h2';rw [List.getElem?_map] at h2'
   cases e:ix[i]? with
   | none=>rw [e] at h2';cases h2'
   | some j =>
    rw [e] at h2';have e2:(σ[j]?).join = some v:=by simpa using h2'
    have e3:σ[j]? = some (some v):=by
     cases q:σ[j]? with
     | none=>rw [q] at e2;cases e2
     | some o=>rw [q] at e2;rw [show o = some v from e2]
    have e4:X.N[j]? = some y:=by
     have:=congrArg (fun l=>l[i]?) wm
     simp only [List.getElem?_map,e,js,Option.map_some] at this;exact Option.some.inj this
    have LO:=S.fvs y (List.mem_of_getElem? js);have uf:=S.free (y,.free) (PySem.mem_of_lookup LO) rfl;obtain ⟨m0,PN,A4⟩:=I.loc;obtain ⟨u,r,lk⟩:=A4 j y v e4 e3 (uf.elim (fun z=>.inr (.inl z)) fun z=>.inr (.inr z))
    refine ⟨u,r,.inr ⟨?_,?_⟩⟩
    ·exact g9 (scope:=scope) (env:=X.env) LO
    ·rcases lk with ⟨k,_⟩ | ⟨_,c,hc,mw⟩
     ·rcases uf with z | z
      ·have k':X.env.scope.names.lookup y = some .local:=k;rw [show X.env.scope.names.lookup y = some .cell from z] at k';cases k'
      ·have k':X.env.scope.names.lookup y = some .local:=k;rw [show X.env.scope.names.lookup y = some .free from z] at k';cases k'
     ·obtain ⟨c',zw⟩:=ju (env:=X.env) LO;have e5:=aQ jZ zw;rw [hc] at e5
      cases e5
      obtain ⟨o,ho,hd⟩:=mw;exact ⟨c,zw,o,old c o ho,hd⟩
 ·obtain ⟨v,o,ho,hd⟩:=I.cell y c (aQ jZ h1);exact ⟨v,o,old c o ho,hd⟩
 ·have qc:p = (D,lobj [] n):=by simpa [Cx.comp] using hp
  subst qc;refine ⟨kL,I.hok.fresh hD,Bf,fun hs=>?_,fun v z=>?_⟩
  ·rcases List.mem_cons.mp (I.stkSub _ hs) with z | z
   ·exact absurd (show D = X.env.locals from z) (Nat.ne_of_gt (Nat.lt_of_lt_of_le I.lt hD))
   ·exact I.nofs hD z
  ·have z':Data.seq _ _ = Data.cell v:=z
   cases z'
 ·show (none :: pick ix σ).length = (x :: fv).length;have:=congrArg List.length wm;simp only [List.length_map] at this;simp [pick,this]
theorem wM {σ' : St} {s1 : Shared} {D : Addr} {its : List Value} {ys : List V} {n : Nat} (I : Inv X pins σ H s)
    (hD:s.heap.objs.size <= D) (hC:s.heap.objs.size <= C) (f2:∀ b ∈ fp,FpOk X pins H b)
    (I1:Inv (X.comp scope (x :: fv) C s H fp) [(D,lobj its n)] σ' H' s1) (hs:Heap.SameBut C s1.heap h') (rv:Vals ys its) (hz:ys.length <= sizeLine) :
    Inv X pins σ (upd H' D (.lst ys)) { s1 with heap:=h' }/\H' D = none:=by
 obtain ⟨eD,nD,Bz,Lr,_⟩:=I1.pin (D,lobj its n) (by simp [Cx.comp]);have Lu:D ≠ C:=Bz;have mr:H' C = none:=I1.free;have Sd:h'.get? D = some (lobj its n):=(hs.2 D Lu).trans eD;have lt:∀ b o,s.heap.get? b = some o->b ≠ C/\b ≠ D:=fun b o e=>⟨Nat.ne_of_lt (Nat.lt_of_lt_of_le (Heap.lt_size e) hC),Nat.ne_of_lt (Nat.lt_of_lt_of_le (Heap.lt_size e) hD)⟩
 have U:Un (rT X.stack) fp H H' s.heap s1.heap:=I1.base;have ou:∀ b u,H' b = some u->b ≠ D:=fun b u e=>aY e nD
 have U':Un (rT X.stack) fp H (upd H' D (.lst ys)) s.heap h':=by
  refine ⟨fun b o e n hb he=>?_,fun b o e n hb he=>?_,fun b o e n he=>?_,fun b o e he=>?_,fun b xs e=>?_,fun b o u e=>?_,fun b ps e=>?_⟩
  ·exact (hs.2 b (lt b o e).1).trans (U.keep b o e n hb he)
  ·obtain ⟨sl,q⟩:=U.slot b o e n hb he;exact ⟨sl,(hs.2 b (lt b o e).1).trans q⟩
  ·rw [aj (lt b o e).2];exact U.free b o e n he
  ·obtain ⟨o',q⟩:=U.there b o e he;exact ⟨o',(hs.2 b (lt b o e).1).trans q⟩
  ·have:=U.tups b xs e;rw [aj (ou b _ this)];exact this
  ·have:=U.frzs b o u e;rw [aj (ou b _ this)];exact this
  ·obtain ⟨more,this⟩:=U.tbls b ps e;exact ⟨more,by rw [aj (ou b _ this)];exact this⟩
 have hok:HOk X.prog X.w (upd H' D (.lst ys)) h':=fun b u e=>by
  by_cases hb:b = D
  ·subst hb;rw [ak] at e
   cases e
   exact ⟨hz,its,n,rv,Sd⟩
  ·rw [aj hb] at e;refine (I1.hok b u e).stay (fun c v hc q=>(hs.2 c ?_).trans q) (fun c q=>by rw [aj (ou c _ q)];exact q) fun c xs q=>by rw [aj (ou c _ q)];exact q
   rintro rfl
   rcases hc with hc | hc
   ·rw [<- hc,mr] at e;cases e
   ·rw [mr] at hc;cases hc
 exact ⟨I.call' (s':={ s1 with heap:=h' }) (ch:=fp) I1.os U' hok I1.bare fun b hb=>⟨(f2 b hb).2.2.2.1,(f2 b hb).2.1,(f2 b hb).2.2.2.2.1,(f2 b hb).2.2.2.2.2⟩,nD⟩
theorem NH {elt iter : Expr} {ifs : List Expr} {px : Pos} {wi : TI} {tt : TT} {te : TE} {osc : Scope} (hc : X.calm = true) (S₀ : LcScope scope x fv osc) (wm : ix.map (fun i => X.N[i]?) = fv.map some) (hi : PI X (.Name x px) iter wi)
    (ht:∀ (C:Addr) (s₀:Shared) (H₀:Hp) (ex:List Addr),Bv (X.comp scope (x :: fv) C s₀ H₀ ex) ifs tt)
    (he:∀ (C:Addr) (s₀:Shared) (H₀:Hp) (ex:List Addr),PE (X.comp scope (x :: fv) C s₀ H₀ ex) elt te)
    (oI:X.env.scope = osc:=by rfl) (hs:∀ x,foldedSetIterable iter X.env x = pure x:=by intro _;rfl):PE X (.ListComp elt [⟨.Name x px,iter,ifs,0⟩] scope pos) (Ng ix wi tt te):=by
 have S:LcScope scope x fv X.env.scope:=oI ▸ S₀;intro pins s σ H Q I h;rw [eval_ListComp];refine wpAny_comprehension_free (use:=none) (cl:=gh scope X.env) rfl hs (gg (S.cells I.ok)) S.kind S.names ?_;refine bw (hi pins s σ H _ I h) fun v s1 h1=>bw h1 fun N1 s2 h2=>?_
 obtain ⟨it,fp,tn,J,H2,e,I2,T,Fd,f2,W,⟨m0,w0⟩,turn⟩:=h2;subst e;have fl:∀ b ∈ fp,b < s2.heap.objs.size:=fun b hb=>by obtain ⟨o,e,_⟩:=T.obj _ _ Fd b hb;exact Heap.lt_size e
 refine wpAny_newObj_type (wpAny_newFunctionEnv S.nocell (by intro y hy;simp at hy) (fun h₁ cQ cb=>?_) S.kind);dsimp only at cQ cb ⊢;generalize uS:s2.heap.push { cls:=.type "list",dict:=none,data:=.seq ([]:List Value).toArray } = A3 at cQ cb ⊢;have TV:A3.objs.size = s2.heap.objs.size + 1:=by rw [<- uS,Heap.size_push]
 generalize TX:A3.objs.size = C at cQ cb ⊢;generalize zx:s2.heap.objs.size = D at *;have Bf:D ≠ C:=by omega
 have hD:s2.heap.objs.size <= D:=by omega
 have hC:s2.heap.objs.size <= C:=by omega
 have Ji:∀ b:Nat,b < s2.heap.objs.size->b ≠ C:=fun b hb=>by omega
 have Jh:∀ b:Nat,b < s2.heap.objs.size->b ≠ D:=fun b hb=>by omega
 have old:∀ b o,s2.heap.get? b = some o->h₁.get? b = some o:=fun b o e=>cb.extBut b o (Ji b (Heap.lt_size e)) (Heap.get?_push_of_some _ (uS ▸ Heap.get?_push_of_some _ e))
 have kL:h₁.get? D = some (lobj [] 0):=cb.extBut _ _ Bf (Heap.get?_push_of_some _ (uS ▸ zx ▸ Heap.get?_push_size _ rfl));have Aa:tn 0 h₁:=T.keep _ _ _ Fd fun b _ o e=>old b o e
 have I3:Inv (X.comp scope (x :: fv) C s2 H2 fp) [(D,lobj [] 0)] (none :: pick ix σ) H2 { s2 with heap:=h₁,toks:=s2.toks + ([]:List (Str × Value)).length }:=pG S wm I2 hD Bf hC f2 (fun b hb=>zx.symm ▸ fl b hb) cQ old kL
 have En:∀ b ∈ fp,b ≠ D:=fun b hb=>Jh b (zx.symm ▸ fl b hb)
 have jZ:=S.cells I2.ok;have jQ:∀ {H':Hp} {its:List Value} {n:Nat},(∀ b ∈ fp,H' b = none)->∀ b ∈ fp,FpOk (X.comp scope (x :: fv) C s2 H2 fp) [(D,lobj its n)] H' b:=fun {H' its n} hn b hb=>by
  obtain ⟨_,g1,g2,g3,g4,g5⟩:=f2 b hb;refine ⟨hn b hb,(Ji b (zx.symm ▸ fl b hb)),fun z=>?_,.inl hb,fun y c h1=>g4 y c (aQ jZ h1),fun p hp=>?_⟩
  ·rcases List.mem_cons.mp (I2.stkSub b z) with z | z
   ·exact g1 z
   ·exact g2 z
  ·have qc:p = (D,lobj its n):=by simpa [Cx.comp] using hp
   rw [qc];exact (En b hb).symm
 have loop : ∀ s3 : Shared, s3 = { s2 with heap := h₁, toks := s2.toks + ([] : List (Str × Value)).length } ->
     codeAny (model X.prog X.w) X.A (.compLoop (.ListComp elt [⟨.Name x px,iter,ifs,0⟩] scope pos) 0 (.ref it) (.ref D) (compEnvC scope (gh scope X.env) C X.env))
      (compPost (model X.prog X.w) X.A X.xe none (EP X pins σ Q) (.ref D) C) s3:=by
  rintro s3 rfl;refine cf (fun n s'=>∃ i ys its k H' o',Inv (X.comp scope (x :: fv) C s2 H2 fp) [(D,lobj its k)] (o' :: pick ix σ) H' s'/\tn i s'.heap/\(∀ b ∈ fp,H' b = none)/\Vals ys its/\ys.length <= sizeLine/\W i n ys H') ?_ m0
   ⟨0,[],[],0,H2,none,I3,Aa,fun b hb=>(f2 b hb).1,.nil,Nat.zero_le _,w0⟩
  rintro n s4 ⟨i,ys,its,k,H4,o4,I4,IP,JC,y8,Jq,w4⟩
  rcases turn i n ys H4 w4 with ⟨stop,q⟩ | ⟨go,eR,step⟩
  ·refine bw (T.done (X.comp scope (x :: fv) C s2 H2 fp) rfl rfl rfl hc i _ s4 _ H4 _ I4 (jQ JC) IP stop) fun r s5 ⟨hr,I5⟩=>?_
   subst hr;obtain ⟨m5,Oj,_⟩:=id I5.loc;refine ⟨m5,Oj,fun h6 Q9=>?_⟩;obtain ⟨I6,nD⟩:=wM I2 hD hC f2 I5 Q9 y8 Jq;exact ⟨.ref D,_,I6,rfl,q D nD⟩
  ·refine bw (T.item (X.comp scope (x :: fv) C s2 H2 fp) rfl rfl rfl hc i _ s4 _ H4 _ I4 (jQ JC) IP go) fun r s5 ⟨u,hr,h5⟩=>?_
   subst hr;refine bw h5 fun _ s6 ⟨xv,H6,I6,r6,y6,vi,OM⟩=>?_
   have Pe:=I6.pinned (jQ OM) (T.obj _ _ vi);refine wpAny_assign_Name (iC (i:=0) Pe S.nd rfl (.inl (lookup_relabel_local S.tgt)) r6 (fun s7 I7=>?_) (.inr (lookup_relabel_local S.tgt)))
   refine bw (ht C s2 H2 fp _ s7 _ H6 _ I7 (step xv H6 y6)) fun b s8 ⟨H8,I8,q8⟩=>?_
   have fJ:∀ {H9:Hp} {σ9:St} {s9:Shared} (I9:Inv (X.comp scope (x :: fv) C s2 H2 fp) ([(D,lobj its k)] ++ cp fp s6.heap) σ9 H9 s9),(∀ b ∈ fp,∀ o,s6.heap.get? b = some o->s9.heap.get? b = some o/\H9 b = none):=fun {H9 σ9 s9} I9 b hb o e =>
    ⟨(I9.pin (b,o) (List.mem_append_right _ (List.mem_append_right _ (bZ hb e)))).1,(I9.pin (b,o) (List.mem_append_right _ (List.mem_append_right _ (bZ hb e)))).2.1⟩
   cases b with
   | false =>
    rw [if_neg Bool.false_ne_true] at q8 ⊢;obtain ⟨m',hm,w8⟩:=q8;refine ⟨m',hm,i + 1,ys,its,k,H8,some xv,I8.unpinned,T.keep _ _ _ vi fun b hb o e=>(fJ I8 b hb o e).1,fun b hb=>?_,y8,Jq,w8⟩;obtain ⟨o,e,_⟩:=T.obj _ _ vi b hb;exact (fJ I8 b hb o e).2
   | true =>
    rw [if_pos rfl] at q8 ⊢;refine bw (he C s2 H2 fp _ s8 _ H8 _ I8 q8) fun y s9 ⟨yv,H9,I9,r9,q9⟩=>?_
    obtain ⟨m',hm,w9⟩:=q9;obtain ⟨eD,nD,Bz,Lr,_⟩:=I9.pin (D,lobj its k) (by simp [Cx.comp]);have hlen:=y8.length;refine wpAny_list_append_plain (items:=its.toArray) ⟨k,eD⟩ (fun JB Ee wg=>?_) (by rw [List.size_toArray];omega)
    obtain ⟨k',OR⟩:=Ee;have J9:Inv (X.comp scope (x :: fv) C s2 H2 fp) (cp fp s6.heap) (some xv :: pick ix σ) H9 s9:=I9.pins_of fun p hp=>I9.pin p (List.mem_append_right _ (List.mem_append_right _ hp))
    have Pc:Inv (X.comp scope (x :: fv) C s2 H2 fp) (cp fp s6.heap) (some xv :: pick ix σ) H9 { s9 with heap:=JB } :=
     J9.turned (t':=s9.toks) (it:=D) (fun b o hb e=>(wg.2 b hb).trans e) nD Bz (.inr hD) (fun y c h1 z=>by
      obtain ⟨_,o,ho,_⟩:=I2.cell y c (aQ jZ h1);exact Jh c (Heap.lt_size ho) z) (fun p hp z=>by
      obtain ⟨hb,_⟩:=jo (show p ∈ cp fp s6.heap by simpa [Cx.comp] using hp);exact En p.1 hb z)
    have Ew:JB.get? D = some (lobj (its ++ [y]) k'):=by
     rw [OR];simp [lobj]
    refine ⟨m',hm,i + 1,ys ++ [yv],its ++ [y],k',H9,some xv,Pc.pins_of fun p hp=>?_,T.keep _ _ _ vi fun b hb o e=>(wg.2 b (En b hb)).trans (fJ I9 b hb o e).1,fun b hb=>?_,y8.append (.cons r9 .nil),?_,w9⟩
    ·have qc:p = (D,lobj (its ++ [y]) k'):=by simpa using hp
     subst qc;exact ⟨Ew,nD,Bz,Lr,fun v z=>by have z':Data.seq _ _ = Data.cell v:=z;cases z'⟩
    ·obtain ⟨o,e,_⟩:=T.obj _ _ vi b hb;exact (fJ I9 b hb o e).2
    ·rw [List.length_append,List.length_singleton];omega
 exact codeAny_compStart_list (loop _ rfl) (T.self _ 0 _ _ _ Aa (loop _ rfl))
end
section
variable {a b:Expr} {ta tb:TE}
theorem DI:OpR X (compareOp .Is) (fun x y H Q=>∃ i j,x = .bl i/\y = .bl j/\Q (.bl (i == j)) H):=by
 intro pins s σ H x y v u Q I rx ry h;obtain ⟨i,j,rfl,rfl,q⟩:=h
 cases rx
 cases ry
 exact is_bool ⟨.bl (i == j),H,I,rfl,q⟩
theorem vH:OpR X (compareOp .IsNot) (fun x y H Q=>∃ i j,x = .bl i/\y = .bl j/\Q (.bl (i != j)) H):=by
 intro pins s σ H x y v u Q I rx ry h;obtain ⟨i,j,rfl,rfl,q⟩:=h
 cases rx
 cases ry
 exact isnot_bool ⟨.bl (i != j),H,I,rfl,q⟩
theorem AD:OpR X (compareOp .LtE) (fun x y H Q=>∃ i j,x = .str i/\y = .str j/\Q (.bl (!decide (j.cps.toList < i.cps.toList))) H):=by
 intro pins s σ H x y v u Q I rx ry h;obtain ⟨i,j,rfl,rfl,q⟩:=h;obtain ⟨t,rfl⟩:=rx;obtain ⟨t',rfl⟩:=ry;exact PySem.P.le_str (uq I q rfl)
theorem yn:OpR X (binaryOp .Mult) (fun x y H Q=>∃ z n,x = .str z/\y = .int n/\MulOk z n/\Q (.str (Txt.mul z n)) H):=by
 intro pins s σ H x y v u Q I rx ry h;obtain ⟨z,n,rfl,rfl,hm,q⟩:=h;obtain ⟨t,rfl⟩:=rx;obtain ⟨t',rfl⟩:=ry;exact SB.mul hm fun t' k=>⟨.str (Txt.mul z n),H,I.tok _,⟨_,rfl⟩,q⟩
def Nq:V->Option Int->Option Int->Hp->VK->Prop:=fun x lo hi H Q=>∃ z,x = .str z/\z.length <= sizeLine/\Q (.str (Txt.slice z lo hi)) H
theorem vE {v:Value} {o:Option Int} (p:IsPart v o):∃ l:Option (Int × Tok),v = partValue l/\l.map (·.1) = o:=by
 cases p with
 | none=>exact ⟨none,rfl,rfl⟩
 | int i t=>exact ⟨some (i,t),rfl,rfl⟩
theorem J7:SlR X Nq:=by
 intro pins s σ H x v vl vu lo hi sl Q I rx hs pl pu h;obtain ⟨z,rfl,hz,q⟩:=h;obtain ⟨t,rfl⟩:=rx;obtain ⟨l,rfl,el⟩:=vE pl;obtain ⟨u,rfl,eu⟩:=vE pu;subst el eu;refine ⟨"str",_,F.slot_str_getitem.lookup,typeIs_str _ _ _,wpAny_getItem_str_slice (l:=l) (u:=u) (st:=none) hs rfl ?_⟩;exact post_val_or_str ⟨Nat.le_trans (Txt.slice_le z _ _) hz,fun t' k=>⟨.str (Txt.slice z (l.map (·.1)) (u.map (·.1))),H,I.tok _,⟨_,rfl⟩,q⟩⟩
theorem wW:∀ {bs:List Bool} {us:List Value},Vals (bs.map V.bl) us->LSm.BoolsAre us bs
 | [],_,r=>by rw [List.map_nil] at r;cases r;exact .nil
 | b :: bs,_,r=>by
  rw [List.map_cons] at r
  cases r with
  | cons r1 r2 =>
   cases (show _ = Value.bool b from r1)
   exact .cons b (wW r2)
theorem EJ (hc:X.calm = true):bq X (.builtin "all") (fun xs H Q=>∃ (p:Addr) (bs:List Bool),xs = [.ref p]/\SqL X.K H p (bs.map V.bl)/\Q (.bl (bs.all id)) H):=by
 intro pins s σ H xs us Q I r h;obtain ⟨p,bs,rfl,hp,q⟩:=h;obtain ⟨u,rfl,ru⟩:=vals1 r
 cases ru
 obtain ⟨its,rv,pl,hz⟩:=I.list hp;have hb:=wW rv;have hl:=pl.isList;have eR:p < s.heap.objs.size:=by obtain ⟨_,e,_⟩:=hl;exact Heap.lt_size e
 have hh:X.A.handled = none:=I.ok.hd hc;refine call_all_walk (wpAny_pyIter_list hl ?_);refine ⟨s.heap.objs.size,[s.heap.objs.size,p],[s.heap.objs.size],its.toArray.size,_,_,fun i=>(bs[i]?).getD true,rfl,Walks.list (A:=X.A.in1) hh _ p (Nat.ne_of_lt eR) its.toArray,
  ⟨⟨_,Heap.get?_push_size _ rfl,rfl,rfl⟩,hl.push _⟩,fun i v s' Q' E' hP hQ=>?_,fun h' tk hk=>?_⟩
 ·obtain ⟨b,e,rfl⟩:=hb.get i v (by simpa using hP);simp only [e,Option.getD_some] at hQ;exact wpAny_truthy_bool hQ
 ·have e:((List.range its.toArray.size).all fun i=>(bs[i]?).getD true) = bs.all id:=by
   rw [List.size_toArray,hb.length];exact LSm.range_all bs
  rw [e];exact ⟨.bl (bs.all id),H,I.kept (LSm.kept_iter hk),rfl,q⟩
theorem wR:bq X (.builtin "isinstance") (fun xs H Q=>∃ x T t b,xs = [x,.ty T]/\j4 X.K H x t/\W.kitOne X.K t (.type T) = some b/\Q (.bl b) H):=by
 intro pins s σ H xs us Q I r h;obtain ⟨x,T,t,b,rfl,ty,hk,q⟩:=h;obtain ⟨u,w',rfl,ru,Ak⟩:=vals2 r
 cases (show w' = Value.type T from Ak)
 exact AW I ru ty hk fun tk=>⟨.bl b,H,I.tok tk,rfl,q⟩
end
structure Fn (K:W.Frag) (mg:Str->Option Value) (x:Str) (st:Stmt) (ps:List Str) (f:Addr) (fd:FuncData):Prop where
 fu:Fun K x x st f fd
 mgx:mg x = some (.ref f)
 bd:Binds K fd ps []
def HasFn (K:W.Frag) (mg:Str->Option Value) (x:Str) (st:Stmt) (ps:List Str):Prop:=∃ f fd,Fn K mg x st ps f fd
section
variable {st:Stmt} {ps:List Str} {f:Addr} {fd:FuncData} {k:Nat} {sp:Sp} {e:Expr} {es:List Expr} {t:TA} {p:Pos}
theorem NK (N : Fn X.K X.mg x st ps f fd) (G : FnOk X.prog X.w X.K X.mg X.base bR k f fd ps sp) (hr : Room k X.A) (ha : PA X (e :: es) t) (hg : Gl X x := by rfl)
    (iw:(x == ("__debug__":Str)) = false:=by decide) (he:starEach (e :: es) X.env = (false,eval e X.env) :: starEach es X.env:=by rfl) (lL:(backTo pos (starEach es X.env)).any (·.1) = false:=by rfl) :
    PE X (.Call (.Name x p) (e :: es) [] pos) (l9 sp [] E0 t):=zg G hr hg N.mgx N.fu.kp N.bd .nil aR ha iw he lL
theorem NJ (h:∃ u,X.mg x = some u/\RelV v u) (hg:Gl X x:=by rfl) (hd:(x == ("__debug__":Str)) = false:=by decide):PE X (.Name x pos) (tC v):=by
 obtain ⟨u,h1,h2⟩:=h;exact GP hg h1 h2 hd
theorem NF {T:String} (hm:X.mg x = none) (hv:bootBuiltins x = some (.type T)) (hg:Gl X x:=by rfl) (hn:x ≠ "__name__":=by decide) (hd:(x == ("__debug__":Str)) = false:=by decide):PE X (.Name x pos) (tC (.ty T)) :=
 GR hg hm hv rfl hn hd
end
section
variable {κ:Type} [DecidableEq κ]
def dC (kvs:List (κ × V)) (k:κ):Option V:=(kvs.find? fun kv=>decide (kv.1 = k)).map (·.2)
def putK (kvs:List (κ × V)) (k:κ) (v:V):List (κ × V) :=
 if (kvs.any fun kv=>decide (kv.1 = k)) = true then kvs.map (fun kv=>if kv.1 = k then (kv.1,v) else kv) else kvs ++ [(k,v)]
def JF (kvs:List (κ × V)) (k:κ):List (κ × V):=kvs.filter fun kv=>decide (kv.1 ≠ k)
theorem kg {p:κ × V} {r:List (κ × V)} {k:κ} (e:p.1 = k):dC (p :: r) k = some p.2:=by simp [dC,List.find?_cons,e]
theorem kh {p:κ × V} {r:List (κ × V)} {k:κ} (e:¬ p.1 = k):dC (p :: r) k = dC r k:=by simp [dC,List.find?_cons,e]
theorem nM (k:κ):∀ kvs:List (κ × V),(kvs.any fun kv=>decide (kv.1 = k)) = (dC kvs k).isSome
 | []=>rfl
 | p :: r=>by
  rw [List.any_cons]
  by_cases e:p.1 = k
  ·simp only [kg e,decide_eq_true e,Bool.true_or,Option.isSome_some]
  ·rw [kh e,decide_eq_false e,Bool.false_or];exact nM k r
theorem iL (kvs:List (κ × V)) (k:κ) (v:V):(putK kvs k v).length <= kvs.length + 1:=by
 unfold putK
 split
 ·rw [List.length_map];omega
 ·rw [List.length_append,List.length_cons,List.length_nil];omega
theorem vB {kvs:List (κ × V)} {k:κ} (v:V) (h:dC kvs k = none):putK kvs k v = kvs ++ [(k,v)]:=by
 unfold putK;rw [nM,h];exact if_neg (by decide)
theorem RelO.isSome_eq {u:Option Value} (r:RelO o u):o.isSome = u.isSome:=by
 cases o with
 | none=>cases u with
  | none=>rfl
  | some _=>exact (show False from r).elim
 | some _=>cases u with
  | none=>exact (show False from r).elim
  | some _=>rfl
theorem RelO.getD {u:Option Value} {d:V} {d':Value} (r:RelO o u) (rd:RelV d d'):RelV (o.getD d) (u.getD d'):=by
 cases o with
 | none=>cases u with
  | none=>exact rd
  | some _=>exact (show False from r).elim
 | some _=>cases u with
  | none=>exact (show False from r).elim
  | some _=>exact r
theorem KV.val {kvs:List (κ × V)} {vs:List (κ × Value)} (r:KV kvs vs) (k:κ):RelO (dC kvs k) (valueAt vs k):=by
 unfold KV at r
 induction r with
 | nil=>exact True.intro
 | @cons p q ps qs h t ih =>
  obtain ⟨h1,h2⟩:=h
  by_cases e:p.1 = k
  ·have e':q.1 = k:=h1.symm.trans e;have b:valueAt (q :: qs) k = some q.2:=by simp [valueAt,List.find?_cons,e']
   rw [kg e,b];exact h2
  ·have e':¬ q.1 = k:=fun z=>e (h1.trans z)
   have b:valueAt (q :: qs) k = valueAt qs k:=by simp [valueAt,List.find?_cons,e']
   rw [kh e,b];exact ih
theorem KV.any {kvs:List (κ × V)} {vs:List (κ × Value)} (r:KV kvs vs) (k:κ):(kvs.any fun kv=>decide (kv.1 = k)) = vs.any fun kv=>decide (kv.1 = k):=by
 unfold KV at r
 induction r with
 | nil=>rfl
 | cons h t ih=>rw [List.any_cons,List.any_cons,ih,h.1]
theorem KV.repl {kvs : List (κ × V)} {vs : List (κ × Value)} (r : KV kvs vs) (k : κ) (ry : RelV y u) :
    KV (kvs.map fun kv=>if kv.1 = k then (kv.1,y) else kv) (vs.map fun kv=>if kv.1 = k then (kv.1,u) else kv):=by
 unfold KV at r ⊢
 induction r with
 | nil=>exact .nil
 | @cons p q ps qs h t ih =>
  rw [List.map_cons,List.map_cons];refine .cons ?_ ih;obtain ⟨h1,h2⟩:=h
  by_cases e:p.1 = k
  ·rw [if_pos e,if_pos (h1.symm.trans e)];exact ⟨h1,ry⟩
  ·rw [if_neg e,if_neg (fun z=>e (h1.trans z))];exact ⟨h1,h2⟩
theorem KV.put {kvs:List (κ × V)} {vs:List (κ × Value)} (r:KV kvs vs) (k:κ) (ry:RelV y u):KV (putK kvs k y) (stored vs k u):=by
 unfold putK stored;rw [r.any k]
 by_cases e:(vs.any fun kv=>decide (kv.1 = k)) = true
 ·rw [if_pos e,if_pos e];exact r.repl k ry
 ·rw [if_neg e,if_neg e];exact Paired.snoc r ⟨rfl,ry⟩
theorem KV.drop {kvs:List (κ × V)} {vs:List (κ × Value)} (r:KV kvs vs) (k:κ):KV (JF kvs k) (without vs k):=by
 unfold KV at r ⊢;unfold JF without
 induction r with
 | nil=>exact .nil
 | @cons p q ps qs h t ih =>
  obtain ⟨h1,h2⟩:=h;rw [List.filter_cons,List.filter_cons]
  by_cases e:p.1 = k
  ·have a:¬ decide (p.1 ≠ k) = true:=by simp [e]
   have b:¬ decide (q.1 ≠ k) = true:=by simp [h1.symm.trans e]
   rw [if_neg a,if_neg b];exact ih
  ·have e':¬ q.1 = k:=fun z=>e (h1.trans z)
   have a:decide (p.1 ≠ k) = true:=by simp [e]
   have b:decide (q.1 ≠ k) = true:=by simp [e']
   rw [if_pos a,if_pos b];exact .cons ⟨h1,h2⟩ ih
theorem KV.keys {kvs:List (κ × V)} {vs:List (κ × Value)} (r:KV kvs vs):kvs.map (·.1) = vs.map (·.1):=by
 unfold KV at r
 induction r with
 | nil=>rfl
 | cons h t ih=>rw [List.map_cons,List.map_cons,ih,h.1]
theorem KV.length {kvs:List (κ × V)} {vs:List (κ × Value)} (r:KV kvs vs):kvs.length = vs.length:=Paired.length r
end
theorem zo {k:Key} (r:RelV (kV k) u):(ba P w).is k u = true:=by
 cases k with
 | inl i=>obtain ⟨t,e⟩:=(show ∃ t,u = Value.int i t from r);subst e;exact vR P w i t
 | inr x=>obtain ⟨t,e⟩:=(show ∃ t,u = Value.str x t from r);subst e;exact vQ P w x t
theorem items_are {P:Program} {w:World}:∀ {ks:List Key} {us:List Value},Vals (ks.map kV) us->ItemsAre (ba P w) ks us
 | [],_,r=>by rw [List.map_nil] at r;cases r;exact .nil
 | k :: ks,_,r=>by
  rw [List.map_cons] at r
  cases r with
  | cons h t=>exact .cons (zo h) (items_are t)
abbrev KT (H:Hp):List (List Key × V)->List (List Key × Addr × Value)->Prop:=Paired fun p q=>p.1 = q.1/\H q.2.1 = some (.tup (p.1.map kV))/\RelV p.2 q.2.2
theorem KT.val (r:KT H kvs xs) (k:List Key):RelO (dC kvs k) ((atKey xs k).map (·.2)):=by
 induction r with
 | nil=>exact True.intro
 | @cons p q ps qs h t ih =>
  obtain ⟨h1,_,h2⟩:=h
  by_cases e:p.1 = k
  ·have e':q.1 = k:=h1.symm.trans e;have b:atKey (q :: qs) k = some q.2:=by simp [atKey,List.find?_cons,e']
   rw [kg e,b];exact h2
  ·have e':¬ q.1 = k:=fun z=>e (h1.trans z)
   have b:atKey (q :: qs) k = atKey qs k:=by simp [atKey,List.find?_cons,e']
   rw [kh e,b];exact ih
theorem KT.repl (r : KT H kvs xs) (k : List Key) (ry : RelV y u) :
    KT H (kvs.map fun kv=>if kv.1 = k then (kv.1,y) else kv) (xs.map (putAt k u)):=by
 induction r with
 | nil=>exact .nil
 | @cons p q ps qs h t ih =>
  rw [List.map_cons,List.map_cons];refine .cons ?_ ih;obtain ⟨h1,h2,h3⟩:=h;unfold putAt
  by_cases e:p.1 = k
  ·rw [if_pos e,if_pos (h1.symm.trans e)];exact ⟨h1,h2,ry⟩
  ·rw [if_neg e,if_neg (fun z=>e (h1.trans z))];exact ⟨h1,h2,h3⟩
theorem KT.put (r : KT H kvs xs) (k : List Key) (hb : H b = some (.tup (k.map kV))) (ry : RelV y u) :
    KT H (putK kvs k y) (storedH xs k b u):=by
 have e:(kvs.any fun kv=>decide (kv.1 = k)) = (atKey xs k).isSome:=by
  rw [nM,(r.val k).isSome_eq,Option.isSome_map]
 unfold putK storedH;rw [e]
 by_cases q:(atKey xs k).isSome = true
 ·rw [if_pos q,if_pos q];exact r.repl k ry
 ·rw [if_neg q,if_neg q];exact Paired.snoc r ⟨rfl,hb,ry⟩
theorem KT.keeps (r:KT H kvs xs) (ht:∀ b ys,H b = some (.tup ys)->H' b = some (.tup ys)):KT H' kvs xs :=
 Paired.mapP r fun _ _ z=>⟨z.1,ht _ _ z.2.1,z.2.2⟩
section
variable {h:Heap}
theorem IX {u:HO} (ok:HOk P w H h) (e:Rd H a u):ObjOk P w H h a u:=e.ok ok
theorem zC {kvs:List (Key × V)} (ok:HOk P w H h) (e:Rd H a (.dK kvs)):kvs.length <= sizeLine/\(a == sysModules) = false/\∃ vs,KV kvs vs/\h.DictOf (ba P w) a vs :=
 show ObjOk P w H h a (.dK kvs) from IX ok e
theorem EA {kvs:List (Key × V)} (ok:HOk P w H h) (e:H a = some (.dK kvs)):kvs.length <= sizeLine/\(a == sysModules) = false/\∃ vs,KV kvs vs/\h.DictOf (ba P w) a vs:=zC ok (.inl e)
theorem tY {ks:List Key} (ok:HOk P w H h) (e:H a = some (.tup (ks.map kV))):(tupleKind (ba P w)).is h ks a:=by
 obtain ⟨_,its,r,o,h1,h2,n,h3⟩:=(show ObjOk P w H h a (.tup (ks.map kV)) from ok a _ e);exact ⟨o,its.toArray,n,h1,h2,h3,by simpa using items_are r⟩
theorem zB (ok : HOk P w H h) (e : Rd H a (.dT kvs)) : kvs.length <= sizeLine /\ (a == sysModules) = false /\
    ∃ xs,KT H kvs xs/\h.DictOfH (tupleKind (ba P w)) a xs:=by
 obtain ⟨z,y,xs,r,o,es,ep,h1,h2,h3,h4,h5⟩:=(show ObjOk P w H h a (.dT kvs) from IX ok e);refine ⟨z,y,xs,r,o,es,ep,h1,h2,h3,h4,fun x hx=>?_,h5⟩
 have all:∀ {l:List (List Key × V)} {m:List (List Key × Addr × Value)},KT H l m->∀ x ∈ m,(tupleKind (ba P w)).is h x.1 x.2.1:=by
  intro l m q
  induction q with
  | nil=>intro x hx;exact nomatch hx
  | @cons p q ps qs hq t ih =>
   intro x hx
   rcases List.mem_cons.mp hx with e | hx
   ·subst e;exact tY ok (by rw [<- hq.1];exact hq.2.1)
   ·exact ih x hx
 exact all r x hx
theorem JE (ok : HOk P w H h) (e : H a = some (.dT kvs)) : kvs.length <= sizeLine /\ (a == sysModules) = false /\
    ∃ xs,KT H kvs xs/\h.DictOfH (tupleKind (ba P w)) a xs:=zB ok (.inl e)
end
def DGet (H:Hp) (a:Addr) (y:V) (r:Option V):Prop :=
 (∃ kvs k,Rd H a (.dK kvs)/\y = kV k/\r = dC kvs k) \/ ∃ kvs k b,Rd H a (.dT kvs)/\y = .ref b/\H b = some (.tup (k.map kV))/\r = dC kvs k
def DPut (H:Hp) (a:Addr) (y v:V) (H':Hp):Prop :=
 (∃ kvs k,H a = some (.dK kvs)/\y = kV k/\kvs.length < sizeLine/\H' = upd H a (.dK (putK kvs k v))) \/
 ∃ kvs k b,H a = some (.dT kvs)/\y = .ref b/\H b = some (.tup (k.map kV))/\kvs.length < sizeLine/\H' = upd H a (.dT (putK kvs k v))
theorem DGet.k {kvs:List (Key × V)} {k:Key} (e:H a = some (.dK kvs)):DGet H a (kV k) (dC kvs k):=.inl ⟨kvs,k,.inl e,rfl,rfl⟩
theorem DGet.t {k:List Key} (e:H a = some (.dT kvs)) (eb:H b = some (.tup (k.map kV))):DGet H a (.ref b) (dC kvs k):=.inr ⟨kvs,k,b,.inl e,rfl,eb,rfl⟩
theorem DPut.k {kvs:List (Key × V)} {k:Key} (e:H a = some (.dK kvs)) (hl:kvs.length < sizeLine):DPut H a (kV k) v (upd H a (.dK (putK kvs k v))):=.inl ⟨kvs,k,e,rfl,hl,rfl⟩
theorem DPut.t {k : List Key} (e : H a = some (.dT kvs)) (eb : H b = some (.tup (k.map kV))) (hl : kvs.length < sizeLine) :
    DPut H a (.ref b) v (upd H a (.dT (putK kvs k v))):=.inr ⟨kvs,k,b,e,rfl,eb,hl,rfl⟩
section
variable {r:Value} {E:Value->Shared->Prop}
theorem Inv.big (I:Inv X pins σ H s):sysModules < s.heap.objs.size:=by
 have h:mainGlobals < s.heap.objs.size:=(I.mod.glob.keeps I.bk).lt;exact Nat.lt_trans (by decide) h
theorem Bn {Q : Value -> Shared -> Prop} (hu : A.units + 1 < cLine) (I : Inv X pins σ H s) (g : DGet H a y (some v)) (ry : RelV y u) (h : ∀ w' s', Inv X pins σ H s' -> RelV v w' -> Q w' s') :
    wpAny (model X.prog X.w) A (getItem (.ref a) u) Q E s:=by
 rcases g with ⟨kvs,k,e,ey,l⟩ | ⟨kvs,k,b,e,ey,eb,l⟩
 ·subst ey;obtain ⟨z,hd,vs,rel,dd⟩:=zC I.hok e;obtain ⟨w',hw,Ak⟩:=RelO.some_of (v:=v) (o:=valueAt vs k) (by rw [l];exact rel.val k);exact wpAny_getItem_of (zo ry) dd.mapOf hw (h w' _ (I.tok _) Ak)
 ·subst ey
  cases (show u = Value.ref b from ry)
  obtain ⟨z,hd,xs,rel,dd⟩:=zB I.hok e;obtain ⟨w',hw,Ak⟩:=RelO.some_of (v:=v) (o:=(atKey xs k).map (·.2)) (by rw [l];exact rel.val k);obtain ⟨p,hp,A3⟩:=Option.map_eq_some_iff.mp hw;refine wpAny_getItem_heap (tupleKind_room_in1 hu) (tY I.hok eb) dd hp ?_;rw [A3];exact h w' _ (I.tok _) Ak
theorem Ik {Q : Value -> Shared -> Prop} (hu : A.units + 1 < cLine) (I : Inv X pins σ H s) (g : DGet H a y o) (ry : RelV y u) (h : ∀ s', Inv X pins σ H s' -> Q (.bool (!o.isSome)) s') :
    wpAny (model X.prog X.w) A (compareOp .NotIn u (.ref a)) Q E s:=by
 rcases g with ⟨kvs,k,e,ey,l⟩ | ⟨kvs,k,b,e,ey,eb,l⟩
 ·subst ey;obtain ⟨z,hd,vs,rel,dd⟩:=zC I.hok e;refine wpAny_notIn_of (zo ry) hd dd.mapOf ?_;rw [<- (rel.val k).isSome_eq,<- l];exact h _ (I.tok _)
 ·subst ey
  cases (show u = Value.ref b from ry)
  obtain ⟨z,hd,xs,rel,dd⟩:=zB I.hok e;refine wpAny_notIn_heap (tupleKind_room_in1 hu) (tY I.hok eb) hd dd ?_;have q:=(rel.val k).isSome_eq;rw [Option.isSome_map] at q;rw [<- q,<- l];exact h _ (I.tok _)
theorem zD {t' : Nat} {ob : HO} (I : Inv X pins σ H s) (mu : O8 (H a)) (hs : Heap.SameBut a s.heap h') (he : ∃ q, h'.get? a = some q) (new : ObjOk X.prog X.w (upd H a ob) h' a ob) :
    Inv X pins σ (upd H a ob) { s with heap:=h',toks:=t' } :=
 I.write (x:=a) (e:=a) mu (.inl rfl) (fun b q hb z=>(hs.2 b hb).trans z) he new
theorem Mj {kvs : List (Key × V)} {vs : List (Key × Value)} (z : kvs.length <= sizeLine) (hd : (a == sysModules) = false) (rel : KV kvs vs) (dd : h'.DictOf (ba P w) a vs) :
    ObjOk P w H' h' a (.dK kvs):=⟨z,hd,vs,rel,dd⟩
theorem Bm {Q : Unit -> Shared -> Prop} (hu : A.units + 1 < cLine) (I : Inv X pins σ H s) (g : DPut H a y v H') (ry : RelV y u) (rv : RelV v r) (h : ∀ s', Inv X pins σ H' s' -> Q () s') :
    wpAny (model X.prog X.w) A (setItem (.ref a) u r) Q E s:=by
 rcases g with ⟨kvs,k,e,ey,l,eH⟩ | ⟨kvs,k,b,e,ey,eb,l,eH⟩
 ·subst ey eH;obtain ⟨z,hd,vs,rel,dd⟩:=EA I.hok e;have hz:vs.length <= sizeLine:=by rw [<- rel.length];exact z
  have hl:(putK kvs k v).length <= sizeLine:=by have:=iL kvs k v;omega
  refine wpAny_setItem_pairs (hsz:=hz) (zo ry) dd fun h' P0 hs=>h _ ?_
  have he:∃ q,h'.get? a = some q:=let ⟨q,_,_,hq,_⟩:=P0;⟨q,hq⟩
  exact zD I (by rw [e];exact True.intro) hs he (Mj hl hd (rel.put k rv) P0)
 ·subst ey eH
  cases (show u = Value.ref b from ry)
  obtain ⟨z,hd,xs,rel,dd⟩:=JE I.hok e;have hz:xs.length <= sizeLine:=by rw [<- Paired.length rel];exact z
  have hl:(putK kvs k v).length <= sizeLine:=by have:=iL kvs k v;omega
  refine wpAny_setItem_heap (hsz:=hz) (tupleKind_room_in1 hu) (tY I.hok eb) dd fun h' P0 hs=>h _ ?_
  obtain ⟨q,es,ep,hq,h2,h3,h4,_,h5⟩:=P0;refine zD I (by rw [e];exact True.intro) hs ⟨q,hq⟩ ⟨hl,hd,_,(rel.put k eb rv).keeps fun c ys ec=>?_,q,es,ep,hq,h2,h3,h4,h5⟩
  rw [aj (NS ec e (fun z=>nomatch z))];exact ec
end
def IG (i:Expr):Prop:=∀ ov iv,subscripted i false ov iv = operate [ov,iv] (getItem ov iv)
theorem Fx {prog : Program} {E : Value -> Shared -> Prop} {value slice : Expr} {T id : String} {Q : Value -> Shared -> Prop}
    (hl:typeLookup (.type T) "__getitem__" = pure (some (.builtin id))) (hs:IG slice)
    (h:wpAny (model prog w) A (eval value env) (fun o s₁=>wpAny (model prog w) A (eval slice env) (fun i s₂=>s₂.TypeIs o T/\wpAny (model prog w) A (getItem o i) Q E s₂) E s₁) E s) :
    wpAny (model prog w) A (eval (.Subscript value slice pos) env) Q E s:=by
 refine Subscript_ (wpAny_mono h (fun o s₁ h₁=>wpAny_mono h₁ (fun i s₂ h₂=>?_) fun _ _ x=>x) fun _ _ x=>x)
 obtain ⟨hT,h₂⟩:=h₂;unfold subscriptTail;refine wpAny_bind ?_;rw [getitemInPython_of_ne hT.not_modules];refine wpAny_bind (wpAny_specialOf hT hl ?_);have fin:wpAny (model prog w) A (subscripted slice false o i) (fun r s₃=>wpAny (model prog w) A (letTemporaryGo value o r >>= fun _=>pure r) Q E s₃) E s₂:=by
  rw [hs o i];exact wpAny_operating (wpAny_mono h₂ (fun r s₃ h₃=>wpAny_bind (wpAny_letTemporaryGo (wpAny_pure h₃))) fun _ _ x=>x)
 first
  | exact wpAny_pure (wpAny_bind fin)
  | exact wpAny_bind (wpAny_pure (wpAny_bind fin))
  | exact wpAny_bind fin
theorem wD (I:Inv X pins σ H s) (g:DGet H a y o):s.TypeIs (.ref a) "dict":=by
 rcases g with ⟨kvs,k,e,_,_⟩ | ⟨kvs,k,b,e,_,_,_⟩
 ·obtain ⟨_,_,vs,_,dd⟩:=zC I.hok e;exact dd.typeIs
 ·obtain ⟨_,_,xs,_,dd⟩:=zB I.hok e;exact dd.typeIs
def vg (td ty:TE):TE:=fun σ H Q=>td σ H fun x H1=>ty σ H1 fun y H2=>∃ a v,x = .ref a/\DGet H2 a y (some v)/\Q v H2
def vx (td ty tv:TE):TS:=fun D σ H=>tv σ H fun v H1=>td σ H1 fun x H2=>ty σ H2 fun y H3=>∃ a H4,x = .ref a/\DPut H3 a y v H4/\D.nx σ H4
section
variable {o i e value:Expr} {pos' Qe:Pos} {td ty tv:TE}
theorem zf (hu:X.A.units + 1 < cLine) (ho:PE X o td) (hi:PE X i ty) (hs:IG i):PE X (.Subscript o i pos) (vg td ty):=by
 intro pins s σ H Q I h;refine Fx PySem.F.slot_dict_getitem.lookup hs (bw (ho pins s σ H _ I h) fun u s1 ⟨x,H1,I1,rx,q1⟩=>bw (hi pins s1 σ H1 _ I1 q1) fun iv s2 ⟨y,H2,I2,ry,a,v,ex,g,q2⟩=>?_)
 subst ex;obtain rfl:u = Value.ref a:=rx;exact ⟨wD I2 g,Bn hu I2 g ry fun w' s3 I3 Ak=>⟨v,H2,I3,Ak,q2⟩⟩
theorem zb (hu : X.A.units + 1 < cLine) (ho : PE X o td) (hi : PE X i ty) (hv : PE X value tv) (hs : swapsWith value (some (.Subscript o i pos')) pos.line X.env = pure false) :
    PS X (.Assign [.Subscript o i pos'] value pos) (vx td ty tv):=by
 intro pins s σ H D I h;refine wpAny_Assign_Subscript (bw (hv pins s σ H _ I h) fun r s1 ⟨v,H1,I1,rv,q1⟩=>bw (ho pins s1 σ H1 _ I1 q1) fun u s2 ⟨x,H2,I2,rx,q2⟩=>bw (hi pins s2 σ H2 _ I2 q2) fun iv s3 ⟨y,H3,I3,ry,a,H4,ex,g,q3⟩=>?_) hs
 subst ex;obtain rfl:u = Value.ref a:=rx;exact Bm hu I3 g ry rv fun s4 I4=>⟨σ,H4,I4,q3⟩
end
theorem EB (h:Heap) (hb:sysModules < h.objs.size):ObjOk P w H (h.push { cls:=.type "dict",data:=.dict #[] }) h.objs.size (.dK []) :=
 ⟨Nat.zero_le _,beq_eq_false_iff_ne.mpr (Ne.symm (Nat.ne_of_lt hb)),[],.nil,Heap.DictOf.new h⟩
theorem Ey (h:Heap) (hb:sysModules < h.objs.size):ObjOk P w H (h.push { cls:=.type "dict",data:=.dict #[] }) h.objs.size (.dT []) :=
 ⟨Nat.zero_le _,beq_eq_false_iff_ne.mpr (Ne.symm (Nat.ne_of_lt hb)),[],.nil,_,#[],0,Heap.get?_push_size _ rfl,⟨rfl,rfl,rfl⟩,rfl,rfl,List.nodup_nil⟩
def xO:TE:=fun _ H Q=>∀ p,H p = none->Q (.ref p) (upd H p (.dK []))
def xN:TE:=fun _ H Q=>∀ p,H p = none->Q (.ref p) (upd H p (.dT []))
section
theorem DC:PE X (.Dict [] [] pos) xO:=fun pins s σ H Q I h =>
 wpAny_Dict_empty ⟨.ref s.heap.objs.size,_,I.laid (a:=s.heap.objs.size) (o:=.dK []) (t':=s.toks) (fun _ _ q=>Heap.get?_push_of_some _ q) (Nat.le_refl _) (EB s.heap I.big),rfl,h _ (I.hok.fresh (Nat.le_refl _))⟩
theorem DB:PE X (.Dict [] [] pos) xN:=fun pins s σ H Q I h =>
 wpAny_Dict_empty ⟨.ref s.heap.objs.size,_,I.laid (a:=s.heap.objs.size) (o:=.dT []) (t':=s.toks) (fun _ _ q=>Heap.get?_push_of_some _ q) (Nat.le_refl _) (Ey s.heap I.big),rfl,h _ (I.hok.fresh (Nat.le_refl _))⟩
end
end L2
namespace L2
open PySem PySem.Spec PyProof.Rows PySem.SeqAt
end L2
namespace L2
open PySem PySem.Spec PyProof.Rows
variable {X:Cx} {z:Str} {i j:Int}
def isStar:Expr->Bool
 | .Starred ..=>true
 | _=>false
theorem aG {e:Expr} {es:List Expr} {env:Env} (h:isStar e = false):starEach (e :: es) env = (false,eval e env) :: starEach es env:=by
 cases e <;> first
  | rfl
  | (have h':true = false:=h;cases h')
def noStar:List Expr->Bool
 | []=>true
 | e :: es=>!isStar e && noStar es
theorem bL {pos:Pos} {env:Env}:∀ {es:List Expr},noStar es = true->(backTo pos (starEach es env)).any (·.1) = false
 | [],_=>rfl
 | e :: es,h=>by
  have h':(!isStar e && noStar es) = true:=h;rw [Bool.and_eq_true] at h';have h1:isStar e = false:=by simpa using h'.1
  rw [aG h1];show (false || (backTo pos (starEach es env)).any (·.1)) = false;rw [bL h'.2]
  rfl
section
variable {x:Str} {st:Stmt} {ps:List Str} {f:Addr} {fd:FuncData} {k:Nat} {sp:Sp} {e:Expr} {es:List Expr} {t:TA} {te:TE} {p pos:Pos} {id T:String} {r:List V->Hp->VK->Prop}
theorem QB (ha:PE X e te) (hr:PA X es t) (h:isStar e = false:=by rfl):PA X (e :: es) (cG te t):=GV ha hr (aG h)
theorem Qz (N : Fn X.K X.mg x st ps f fd) (G : FnOk X.prog X.w X.K X.mg X.base bR k f fd ps sp) (hr : Room k X.A) (ha : PA X (e :: es) t) (hg : Gl X x := by rfl) (iw : (x == ("__debug__" : Str)) = false := by decide) (h1 : isStar e = false := by rfl) (h2 : noStar es = true := by rfl) :
    PE X (.Call (.Name x p) (e :: es) [] pos) (l9 sp [] E0 t):=NK N G hr ha hg iw (aG h1) (bL h2)
theorem QA (hc : bq X (.builtin id) r) (hm : X.mg x = none) (hv : bootBuiltins x = some (.builtin id)) (ha : PA X (e :: es) t) (hg : Gl X x := by rfl) (hn : x ≠ "__name__" := by decide) (iw : (x == ("__debug__" : Str)) = false := by decide) (h1 : isStar e = false := by rfl) (h2 : noStar es = true := by rfl) :
    PE X (.Call (.Name x p) (e :: es) [] pos) (JV r t):=DE hc hg hm hv ha hn iw (aG h1) (bL h2)
theorem Qy (hc : bq X (.type T) r) (hm : X.mg x = none) (hv : bootBuiltins x = some (.type T)) (ha : PA X (e :: es) t) (hg : Gl X x := by rfl) (hn : x ≠ "__name__" := by decide) (iw : (x == ("__debug__" : Str)) = false := by decide) (h1 : isStar e = false := by rfl) (h2 : noStar es = true := by rfl) :
    PE X (.Call (.Name x p) (e :: es) [] pos) (JV r t):=Ax hc hg hm hv ha hn iw (aG h1) (bL h2)
theorem NC {tg a:Expr} {ta:TA} (hm:X.mg "range" = none) (ha:PA X [a] ta) (hg:Gl X "range":=by rfl) (h1:isStar a = false:=by rfl):PI X tg (.Call (.Name "range" p) [a] [] pos) (zq ta):=Av hg hm ha (by rw [aG h1];rfl)
end
theorem vP {n:Int} (hz:z.length <= 1000) (h0:-1000 <= n) (h1:n <= 1000):MulOk z n:=by
 refine ⟨?_,fun hn _ h=>?_,fun hn _=>?_⟩
 ·rw [decide_eq_false (by omega),decide_eq_false (by omega)]
  rfl
 ·have:(1000:Int) <= (2 ^ 63 - 1) / n:=Int.le_ediv_of_mul_le (by omega) (by omega);omega
 ·show decide (z.length * n.toNat > sizeLine) = false;have h2:z.length * n.toNat <= 1000 * 1000:=Nat.mul_le_mul hz (by omega);rw [sizeLine_eq];exact decide_eq_false (by omega)
theorem len_list (z:Str):z.length = z.cps.toList.length:=by simp [Str.length]
theorem app_list (x y:Str):(x ++ y).cps.toList = x.cps.toList ++ y.cps.toList:=by
 show (x.cps ++ y.cps).toList = _;simp
theorem E2 {α:Type} [Inhabited α] {xs:List α} (h0:0 <= i) (h1:i < xs.length):∃ c,uC xs i = some c/\c ∈ xs:=by
 obtain ⟨j,rfl⟩:∃ j:Nat,i = j:=⟨i.toNat,by omega⟩;have hj:j < xs.length:=by omega
 exact ⟨xs[j],kT (List.getElem?_eq_getElem hj),List.getElem_mem hj⟩
theorem CL (h0:0 <= j) (h1:j <= z.length):(Txt.slice z none (some j)).cps.toList = z.cps.toList.take j.toNat:=by
 have e:=slice_closes_to (x:=z) (j:=j) ⟨h0,by rw [<- len_list];exact h1⟩;rw [eq_of_beq e];simp
theorem xV (h0:0 <= j) (h1:j <= z.length):(Txt.slice z (some j) none).cps.toList = z.cps.toList.drop j.toNat:=by
 have e:=slice_closes_from (x:=z) (i:=j) ⟨h0,by rw [<- len_list];exact h1⟩;rw [eq_of_beq e];show ((z.cps.toList.drop j.toNat).take ((z.cps.toList.length:Int) - j).toNat) = _;apply List.take_of_length_le;rw [List.length_drop];omega
section
def oa (K:W.Frag):R2:=fun x y H Q=>Ao (fun i j=>.int (i + j)) x y H Q \/ (∃ i j,x = .str i/\y = .str j/\i.length + j.length <= sizeLine/\Q (.str (i ++ j)) H) \/ Ny x y H Q \/ Jd K x y H Q
theorem bE:OpR X (binaryOp .Add) (oa X.K):=Ll.or (yo.or (Lj.or GY))
def Df:R2:=fun x y H Q=>rI CMul (fun i j=>.int (i * j)) x y H Q \/ (∃ z n,x = .str z/\y = .int n/\MulOk z n/\Q (.str (Txt.mul z n)) H) \/ Nt x y H Q
theorem rG:OpR X (binaryOp .Mult) Df:=Lh.or (yn.or Lg)
def Dg:R2:=fun x y H Q=>Ao (fun i j=>.bl (decide (i < j))) x y H Q \/ (∃ i j,x = .str i/\y = .str j/\Q (.bl (decide (i.cps.toList < j.cps.toList))) H)
theorem Hf:OpR X (compareOp .Lt) Dg:=NN.or AB
def Dj:R2:=fun x y H Q=>Ao (fun i j=>.bl (decide (i <= j))) x y H Q \/ (∃ i j,x = .str i/\y = .str j/\Q (.bl (!decide (j.cps.toList < i.cps.toList))) H)
theorem Hg:OpR X (compareOp .LtE) Dj:=NO.or AD
def Gf (K:W.Frag):V->Option Int->Option Int->Hp->VK->Prop:=fun x lo hi H Q=>Nq x lo hi H Q \/ Nr K x lo hi H Q \/ Np K x lo hi H Q
theorem ro:SlR X (Gf X.K):=J7.or (FE.or J6)
end
section
variable {K:W.Frag} {σ:St} {H:Hp} {D:Ends} {Q:VK} {E:XK}
theorem ye (hc:0 < j) (h:Q (.int (i % j)) H):rI (fun _ j=>0 < j) (fun i j=>.int (i % j)) (.int i) (.int j) H Q:=⟨i,j,rfl,rfl,hc,h⟩
theorem F0 (hc:0 < j/\j < 1073741824) (h:Q (.int (i / j)) H):rI Pg (fun i j=>.int (i / j)) (.int i) (.int j) H Q:=⟨i,j,rfl,rfl,hc,h⟩
theorem Ke (hc:0 <= j/\j <= 1000000/\i.natAbs < 2 ^ 64) (h:Q (.int (i ^ j.toNat)) H):rI Pf (fun i j=>.int (i ^ j.toNat)) (.int i) (.int j) H Q:=⟨i,j,rfl,rfl,hc,h⟩
theorem Kd (hc:0 <= j) (h:Q (.int (i / 2 ^ j.toNat)) H):rI (fun _ j=>0 <= j) (fun i j=>.int (i / 2 ^ j.toNat)) (.int i) (.int j) H Q:=⟨i,j,rfl,rfl,hc,h⟩
theorem Ge (h:Q (.int (i + j)) H):oa K (.int i) (.int j) H Q:=.inl ⟨i,j,rfl,rfl,h⟩
theorem jm {i j:Str} (hz:i.length + j.length <= sizeLine) (h:Q (.str (i ++ j)) H):oa K (.str i) (.str j) H Q:=.inr (.inl ⟨i,j,rfl,rfl,hz,h⟩)
theorem aE {p:Addr} {o:HO} (h:H p = none):Same H (upd H p o):=fun b u e=>by rw [aj (aY e h)];exact e
theorem nG {l b:Addr} {xs ys:List V} (h1:H l = some (.lst xs)) (h2:H b = some (.lst ys)) (hz:xs.length + ys.length <= sizeLine) (h:∀ p H1,H p = none->Same H H1->H1 p = some (.lst (xs ++ ys))->Q (.ref p) H1):oa K (.ref l) (.ref b) H Q :=
 .inr (.inr (.inl ⟨l,b,xs,ys,rfl,rfl,h1,h2,hz,fun p hp=>h p _ hp (aE hp) ak⟩))
theorem FT (hc:CMul i j) (h:Q (.int (i * j)) H):Df (.int i) (.int j) H Q:=.inl ⟨i,j,rfl,rfl,hc,h⟩
theorem FR {n:Int} (hc:MulOk z n) (h:Q (.str (Txt.mul z n)) H):Df (.str z) (.int n) H Q:=.inr (.inl ⟨z,n,rfl,rfl,hc,h⟩)
theorem Ko (h:Q (.bl (decide (i < j))) H):Dg (.int i) (.int j) H Q:=.inl ⟨i,j,rfl,rfl,h⟩
theorem Kn {i j:Str} (h:Q (.bl (decide (i.cps.toList < j.cps.toList))) H):Dg (.str i) (.str j) H Q:=.inr ⟨i,j,rfl,rfl,h⟩
theorem Kq (h:Q (.bl (decide (i <= j))) H):Dj (.int i) (.int j) H Q:=.inl ⟨i,j,rfl,rfl,h⟩
theorem Kp {i j:Str} (h:Q (.bl (!decide (j.cps.toList < i.cps.toList))) H):Dj (.str i) (.str j) H Q:=.inr ⟨i,j,rfl,rfl,h⟩
end
end L2
namespace L2
open PySem PySem.Spec PyProof.Rows PySem.SeqAt
variable {H:Hp}
inductive D where
 | non | bl (b:Bool) | int (i:Int) | str (x:Str) | lst (xs:List D) | tup (xs:List D) | dct
mutual
def Rep (H:Hp):D->V->Prop
 | .non,v=>v = .non
 | .bl b,v=>v = .bl b
 | .int i,v=>v = .int i
 | .str x,v=>v = .str x
 | .lst ds,v=>∃ a vs,v = .ref a/\H a = some (.lst vs)/\Reps H ds vs
 | .tup ds,v=>∃ a vs,v = .ref a/\H a = some (.tup vs)/\Reps H ds vs
 | .dct,v=>∃ a kvs,v = .ref a/\H a = some (.dK kvs)
def Reps (H:Hp):List D->List V->Prop
 | [],vs=>vs = []
 | d :: ds,vs=>∃ v r,vs = v :: r/\Rep H d v/\Reps H ds r
end
mutual
def av:D->D->Bool
 | .non,.non=>true
 | .bl a,.bl b=>a == b
 | .bl a,.int i=>(if a then 1 else 0) == i
 | .int i,.bl a=>i == (if a then 1 else 0)
 | .int i,.int j=>i == j
 | .str x,.str y=>x == y
 | .lst xs,.lst ys=>cX xs ys
 | .tup xs,.tup ys=>cX xs ys
 | .dct,.dct=>true
 | _,_=>false
def cX:List D->List D->Bool
 | [],[]=>true
 | x :: xs,y :: ys=>av x y && cX xs ys
 | _,_=>false
end
mutual
def D.dep:D->Nat
 | .lst ds=>D.deps ds + 1
 | .tup ds=>D.deps ds + 1
 | .dct=>1000
 | _=>0
def D.deps:List D->Nat
 | []=>0
 | d :: ds=>max (D.dep d) (D.deps ds)
end
theorem Reps.length {H:Hp}:∀ {ds:List D} {vs:List V},Reps H ds vs->ds.length = vs.length
 | [],vs,h=>by simp only [Reps] at h;subst h;rfl
 | d :: ds,vs,h=>by
  simp only [Reps] at h;obtain ⟨v,r,rfl,_,h⟩:=h;rw [List.length_cons,List.length_cons,Reps.length h]
mutual
theorem Rep.same {H H':Hp} (s:Same H H'):∀ {d:D} {v:V},Rep H d v->Rep H' d v
 | .non,v,h=>by simp only [Rep] at h ⊢;exact h
 | .bl b,v,h=>by simp only [Rep] at h ⊢;exact h
 | .int b,v,h=>by simp only [Rep] at h ⊢;exact h
 | .str b,v,h=>by simp only [Rep] at h ⊢;exact h
 | .lst ds,v,h=>by simp only [Rep] at h ⊢;obtain ⟨a,vs,e,h1,h2⟩:=h;exact ⟨a,vs,e,s _ _ h1,Reps.same s h2⟩
 | .tup ds,v,h=>by simp only [Rep] at h ⊢;obtain ⟨a,vs,e,h1,h2⟩:=h;exact ⟨a,vs,e,s _ _ h1,Reps.same s h2⟩
 | .dct,v,h=>by simp only [Rep] at h ⊢;obtain ⟨a,vs,e,h1⟩:=h;exact ⟨a,vs,e,s _ _ h1⟩
theorem Reps.same {H H':Hp} (s:Same H H'):∀ {ds:List D} {vs:List V},Reps H ds vs->Reps H' ds vs
 | [],vs,h=>by simp only [Reps] at h ⊢;exact h
 | d :: ds,vs,h=>by simp only [Reps] at h ⊢;obtain ⟨v,r,e,h1,h2⟩:=h;exact ⟨v,r,e,Rep.same s h1,Reps.same s h2⟩
end
mutual
theorem eI:∀ d:D,av d d = true
 | .non=>by simp [av]
 | .bl b=>by simp [av]
 | .int b=>by simp [av]
 | .str b=>by simp [av]
 | .lst ds=>by simp only [av];exact jS ds
 | .tup ds=>by simp only [av];exact jS ds
 | .dct=>by simp only [av]
theorem jS:∀ ds:List D,cX ds ds = true
 | []=>by simp [cX]
 | d :: ds=>by simp only [cX];rw [eI d,jS ds];rfl
end
mutual
theorem Rep.inj {H:Hp}:∀ {d e:D} {v:V},Rep H d v->Rep H e v->d = e
 | .non,e,v,h,h'=>by simp only [Rep] at h;subst h;cases e <;> simp only [Rep] at h' <;> first | rfl | (cases h';done) | (obtain ⟨_,_,z,_⟩:=h';cases z)
 | .bl b,e,v,h,h'=>by simp only [Rep] at h;subst h;cases e <;> simp only [Rep] at h' <;> first | (cases h';rfl) | (cases h';done) | (obtain ⟨_,_,z,_⟩:=h';cases z)
 | .int b,e,v,h,h'=>by simp only [Rep] at h;subst h;cases e <;> simp only [Rep] at h' <;> first | (cases h';rfl) | (cases h';done) | (obtain ⟨_,_,z,_⟩:=h';cases z)
 | .str b,e,v,h,h'=>by simp only [Rep] at h;subst h;cases e <;> simp only [Rep] at h' <;> first | (cases h';rfl) | (cases h';done) | (obtain ⟨_,_,z,_⟩:=h';cases z)
 | .lst ds,e,v,h,h'=>by
  simp only [Rep] at h;obtain ⟨a,vs,rfl,h1,h2⟩:=h
  cases e <;> simp only [Rep] at h' <;> first | (cases h';done) | skip
  ·obtain ⟨a',JJ,z,js,h2'⟩:=h'
   cases z
   rw [h1] at js
   cases js
   rw [Reps.inj h2 h2']
  ·obtain ⟨a',JJ,z,js,h2'⟩:=h'
   cases z
   rw [h1] at js
   cases js
  ·obtain ⟨a',JJ,z,js⟩:=h'
   cases z
   rw [h1] at js
   cases js
 | .tup ds,e,v,h,h'=>by
  simp only [Rep] at h;obtain ⟨a,vs,rfl,h1,h2⟩:=h
  cases e <;> simp only [Rep] at h' <;> first | (cases h';done) | skip
  ·obtain ⟨a',JJ,z,js,h2'⟩:=h'
   cases z
   rw [h1] at js
   cases js
  ·obtain ⟨a',JJ,z,js,h2'⟩:=h'
   cases z
   rw [h1] at js
   cases js
   rw [Reps.inj h2 h2']
  ·obtain ⟨a',JJ,z,js⟩:=h'
   cases z
   rw [h1] at js
   cases js
 | .dct,e,v,h,h'=>by
  simp only [Rep] at h;obtain ⟨a,vs,rfl,h1⟩:=h
  cases e <;> simp only [Rep] at h' <;> first | rfl | (cases h';done) | skip
  ·obtain ⟨a',JJ,z,js,h2'⟩:=h'
   cases z
   rw [h1] at js
   cases js
  ·obtain ⟨a',JJ,z,js,h2'⟩:=h'
   cases z
   rw [h1] at js
   cases js
theorem Reps.inj {H:Hp}:∀ {ds es:List D} {vs:List V},Reps H ds vs->Reps H es vs->ds = es
 | [],es,vs,h,h'=>by
  simp only [Reps] at h;subst h
  cases es with
  | nil=>rfl
  | cons e es=>simp only [Reps] at h';obtain ⟨_,_,z,_⟩:=h';cases z
 | d :: ds,es,vs,h,h'=>by
  simp only [Reps] at h;obtain ⟨v,r,rfl,h1,h2⟩:=h
  cases es with
  | nil=>simp only [Reps] at h';cases h'
  | cons e es =>
   simp only [Reps] at h';obtain ⟨_,_,z,js,h2'⟩:=h'
   cases z
   rw [Rep.inj h1 js,Reps.inj h2 h2']
end
theorem oX {A:Around} {s:Shared} {v u:Value} {b:Bool} (hf:∀ c t,v ≠ .float c t) (hs:v = u->b = true) (h:RcAt A s v u b):EqAt A s v u b:=fun prog w E Q hq=>by
 unfold eqBool;refine wpAny_holding ?_;refine wpAny_ite_split (fun Ic=>?_) (fun _=>?_)
 ·rw [hs (eq_of_beq Ic)] at hq;exact wpAny_bind (wpAny_rule (wpAny_pure hq))
 ·cases v <;> first
   | exact absurd rfl (hf _ _)
   | exact wpAny_bind (h prog w E _ (wpAny_truthy_bool hq))
theorem Rep.noflt {d:D} {x:V} {v:Value} (h:Rep H d x) (r:RelV x v):∀ c t,v ≠ .float c t:=fun c t z=>by
 subst z
 cases d <;> simp only [Rep] at h
 ·subst h;cases (show Value.float c t = Value.none from r)
 ·subst h;cases (show Value.float c t = Value.bool _ from r)
 ·subst h;obtain ⟨_,z⟩:=r;cases z
 ·subst h;obtain ⟨_,z⟩:=r;cases z
 ·obtain ⟨a,_,rfl,_⟩:=h;cases (show Value.float c t = Value.ref a from r)
 ·obtain ⟨a,_,rfl,_⟩:=h;cases (show Value.float c t = Value.ref a from r)
 ·obtain ⟨a,_,rfl,_⟩:=h;cases (show Value.float c t = Value.ref a from r)
def Bl (ds es:List D) (j:Nat):Bool:=av (ds.getD j .non) (es.getD j .non)
theorem fH:∀ {ds es:List D},ds.length = es.length->(List.range ds.length).all (Bl ds es) = cX ds es
 | [],[],_=>by simp [cX]
 | [],_ :: _,h=>by simp at h
 | _ :: _,[],h=>by simp at h
 | d :: ds,e :: es,h=>by
  rw [List.length_cons,List.range_succ_eq_map,List.all_cons,List.all_map];have ih:=fH (ds:=ds) (es:=es) (by simpa using h);simp only [cX];rw [<- ih]
  rfl
theorem jn:∀ {ds es:List D},ds.length ≠ es.length->cX ds es = false
 | [],[],h=>by simp at h
 | [],_ :: _,_=>by simp [cX]
 | _ :: _,[],_=>by simp [cX]
 | d :: ds,e :: es,h=>by
  simp only [cX];rw [jn (ds:=ds) (es:=es) (by simpa using h),Bool.and_false]
theorem Reps.get {H:Hp}:∀ {ds:List D} {vs:List V} {j:Nat},Reps H ds vs->j < ds.length->∃ v,vs[j]? = some v/\Rep H (ds.getD j .non) v
 | [],_,_,_,h=>by simp at h
 | d :: ds,vs,j,h,hj=>by
  simp only [Reps] at h;obtain ⟨v,r,rfl,h1,h2⟩:=h
  cases j with
  | zero=>exact ⟨v,rfl,h1⟩
  | succ j =>
   obtain ⟨w,e,h3⟩:=Reps.get h2 (show j < ds.length by simpa using hj);exact ⟨w,by simpa using e,h3⟩
theorem D.dep_get:∀ (ds:List D) (j:Nat),(ds.getD j .non).dep <= D.deps ds
 | [],j=>by simp [D.dep,D.deps]
 | d :: ds,0=>by simp only [D.deps,List.getD_cons_zero];omega
 | d :: ds,j + 1=>by
  have:=D.dep_get ds j;simp only [D.deps,List.getD_cons_succ];omega
theorem mn {n m:Nat} {e:Nat->Bool} {ds es:List D} (hn:n = ds.length) (hm:m = es.length) (he:e = Bl ds es):((List.range (min n m)).all e && n == m) = cX ds es:=by
 subst hn hm he
 by_cases h:ds.length = es.length
 ·rw [h,Nat.min_self,<- h,fH h];simp
 ·rw [jn h,beq_eq_false_iff_ne.mpr h,Bool.and_false]
theorem yb {P:Program} {w:World}:∀ (n:Nat) {A:Around} {s:Shared} {H:Hp} {d e:D} {x y:V} {v u:Value},HOk P w H s.heap->d.dep <= n->e.dep <= n->n < 1000->Rep H d x->Rep H e y->RelV x v->RelV y u->A.units + n < cLine->RcAt A s v u (av d e)
 | n,A,s,H,d,e,x,y,v,u,hok,hn,oJ,eR,hd,he,rx,ry,hu=>by
  have fZ:A.units < cLine:=by omega
  have items:∀ {ds es:List D} {vs us:List V} {its gH:List Value},D.deps ds + 1 <= n->D.deps es + 1 <= n->Reps H ds vs->Reps H es us->Vals vs its->Vals us gH->∀ j (h1:j < its.toArray.size) (h2:j < gH.toArray.size),EqAt A.in1 s its.toArray[j] gH.toArray[j] (Bl ds es j):=by
   intro ds es vs us its gH RD OC r1 r2 v1 v2 j h1 h2;have l1:=r1.length;have l2:=r2.length;have l3:=v1.length;have l4:=v2.length;rw [List.size_toArray] at h1 h2;obtain ⟨a,ea,ra⟩:=r1.get (j:=j) (by omega);obtain ⟨b,eb,rb⟩:=r2.get (j:=j) (by omega);obtain ⟨va,OP,Kc⟩:=v1.get ea;obtain ⟨vb,OO,Nj⟩:=v2.get eb;have ga:its.toArray[j]'(by simpa using h1) = va:=by
    rw [List.getElem?_eq_getElem h1] at OP;simpa using Option.some.inj OP
   have gb:gH.toArray[j]'(by simpa using h2) = vb:=by
    rw [List.getElem?_eq_getElem h2] at OO;simpa using Option.some.inj OO
   rw [ga,gb];have WO:=D.dep_get ds j;have RC:=D.dep_get es j;refine oX (ra.noflt Kc) (fun z=>?_) (yb (n - 1) hok (by omega) (by omega) (by omega) ra rb Kc Nj (by rw [Around.in1_units];omega));subst z;have:=Kc.inj Nj;subst this;have:=ra.inj rb;unfold Bl;rw [this];exact eI _
  cases d with
  | dct=>simp only [D.dep] at hn;omega
  | non =>
   simp only [Rep] at hd;subst hd
   cases (show v = Value.none from rx)
   cases e with
   | dct=>simp only [D.dep] at oJ;omega
   | non=>simp only [Rep] at he;subst he;cases (show u = Value.none from ry);simp only [av];exact RcAt.none_none
   | bl b=>simp only [Rep] at he;subst he;cases (show u = Value.bool b from ry);simp only [av];exact RcAt.none_bool _
   | int b=>simp only [Rep] at he;subst he;obtain ⟨t,rfl⟩:=ry;simp only [av];exact RcAt.none_int _ _
   | str b=>simp only [Rep] at he;subst he;obtain ⟨t,rfl⟩:=ry;simp only [av];exact RcAt.none_str _ _
   | lst ds=>simp only [Rep] at he;obtain ⟨a,vs,rfl,h1,h2⟩:=he;cases (show u = Value.ref a from ry);obtain ⟨_,its,k,_,h3⟩:=(show ObjOk P w H s.heap a (.lst vs) from hok a _ h1);simp only [av];exact RcAt.none_list (items:=its.toArray) ⟨_,h3,rfl,k,rfl⟩ fZ
   | tup ds=>simp only [Rep] at he;obtain ⟨a,vs,rfl,h1,h2⟩:=he;cases (show u = Value.ref a from ry);obtain ⟨_,its,_,h3⟩:=(show ObjOk P w H s.heap a (.tup vs) from hok a _ h1);simp only [av];exact RcAt.none_tuple h3 fZ
  | bl c =>
   simp only [Rep] at hd;subst hd
   cases (show v = Value.bool c from rx)
   cases e with
   | dct=>simp only [D.dep] at oJ;omega
   | non=>simp only [Rep] at he;subst he;cases (show u = Value.none from ry);simp only [av];exact RcAt.bool_none _
   | bl b=>simp only [Rep] at he;subst he;cases (show u = Value.bool b from ry);simp only [av];exact RcAt.bool_bool _ _
   | int b=>simp only [Rep] at he;subst he;obtain ⟨t,rfl⟩:=ry;simp only [av];exact RcAt.bool_int _ _ _
   | str b=>simp only [Rep] at he;subst he;obtain ⟨t,rfl⟩:=ry;simp only [av];exact RcAt.bool_str _ _ _
   | lst ds=>simp only [Rep] at he;obtain ⟨a,vs,rfl,h1,h2⟩:=he;cases (show u = Value.ref a from ry);obtain ⟨_,its,k,_,h3⟩:=(show ObjOk P w H s.heap a (.lst vs) from hok a _ h1);simp only [av];exact RcAt.bool_list (items:=its.toArray) _ ⟨_,h3,rfl,k,rfl⟩ fZ
   | tup ds=>simp only [Rep] at he;obtain ⟨a,vs,rfl,h1,h2⟩:=he;cases (show u = Value.ref a from ry);obtain ⟨_,its,_,h3⟩:=(show ObjOk P w H s.heap a (.tup vs) from hok a _ h1);simp only [av];exact RcAt.bool_tuple _ h3 fZ
  | int c =>
   simp only [Rep] at hd;subst hd;obtain ⟨t',rfl⟩:=rx
   cases e with
   | dct=>simp only [D.dep] at oJ;omega
   | non=>simp only [Rep] at he;subst he;cases (show u = Value.none from ry);simp only [av];exact RcAt.int_none _ _
   | bl b=>simp only [Rep] at he;subst he;cases (show u = Value.bool b from ry);simp only [av];exact RcAt.int_bool _ _ _
   | int b=>simp only [Rep] at he;subst he;obtain ⟨t,rfl⟩:=ry;simp only [av];exact RcAt.int_int _ _ _ _
   | str b=>simp only [Rep] at he;subst he;obtain ⟨t,rfl⟩:=ry;simp only [av];exact RcAt.int_str _ _ _ _
   | lst ds=>simp only [Rep] at he;obtain ⟨a,vs,rfl,h1,h2⟩:=he;cases (show u = Value.ref a from ry);obtain ⟨_,its,k,_,h3⟩:=(show ObjOk P w H s.heap a (.lst vs) from hok a _ h1);simp only [av];exact RcAt.int_list (items:=its.toArray) _ _ ⟨_,h3,rfl,k,rfl⟩ fZ
   | tup ds=>simp only [Rep] at he;obtain ⟨a,vs,rfl,h1,h2⟩:=he;cases (show u = Value.ref a from ry);obtain ⟨_,its,_,h3⟩:=(show ObjOk P w H s.heap a (.tup vs) from hok a _ h1);simp only [av];exact RcAt.int_tuple _ _ h3 fZ
  | str c =>
   simp only [Rep] at hd;subst hd;obtain ⟨t',rfl⟩:=rx
   cases e with
   | dct=>simp only [D.dep] at oJ;omega
   | non=>simp only [Rep] at he;subst he;cases (show u = Value.none from ry);simp only [av];exact RcAt.str_none _ _
   | bl b=>simp only [Rep] at he;subst he;cases (show u = Value.bool b from ry);simp only [av];exact RcAt.str_bool _ _ _
   | int b=>simp only [Rep] at he;subst he;obtain ⟨t,rfl⟩:=ry;simp only [av];exact RcAt.str_int _ _ _ _
   | str b=>simp only [Rep] at he;subst he;obtain ⟨t,rfl⟩:=ry;simp only [av];exact RcAt.str_str _ _ _ _
   | lst ds=>simp only [Rep] at he;obtain ⟨a,vs,rfl,h1,h2⟩:=he;cases (show u = Value.ref a from ry);obtain ⟨_,its,k,_,h3⟩:=(show ObjOk P w H s.heap a (.lst vs) from hok a _ h1);simp only [av];exact RcAt.str_list (items:=its.toArray) _ _ ⟨_,h3,rfl,k,rfl⟩ fZ
   | tup ds=>simp only [Rep] at he;obtain ⟨a,vs,rfl,h1,h2⟩:=he;cases (show u = Value.ref a from ry);obtain ⟨_,its,_,h3⟩:=(show ObjOk P w H s.heap a (.tup vs) from hok a _ h1);simp only [av];exact RcAt.str_tuple _ _ h3 fZ
  | lst cs =>
   simp only [Rep] at hd;obtain ⟨b,ws,rfl,g1,g2⟩:=hd
   cases (show v = Value.ref b from rx)
   obtain ⟨_,HN,m,g4,g3⟩:=(show ObjOk P w H s.heap b (.lst ws) from hok b _ g1);have gl:s.heap.IsList b HN.toArray:=⟨_,g3,rfl,m,rfl⟩
   cases e with
   | dct=>simp only [D.dep] at oJ;omega
   | non=>simp only [Rep] at he;subst he;cases (show u = Value.none from ry);simp only [av];exact RcAt.list_none gl fZ
   | bl b=>simp only [Rep] at he;subst he;cases (show u = Value.bool b from ry);simp only [av];exact RcAt.list_bool _ gl fZ
   | int b=>simp only [Rep] at he;subst he;obtain ⟨t,rfl⟩:=ry;simp only [av];exact RcAt.list_int _ _ gl fZ
   | str b=>simp only [Rep] at he;subst he;obtain ⟨t,rfl⟩:=ry;simp only [av];exact RcAt.list_str _ _ gl fZ
   | lst ds =>
    simp only [Rep] at he;obtain ⟨a,vs,rfl,h1,h2⟩:=he
    cases (show u = Value.ref a from ry)
    obtain ⟨_,its,k,h4,h3⟩:=(show ObjOk P w H s.heap a (.lst vs) from hok a _ h1);simp only [av];have l1:=g2.length;have l2:=h2.length;have l3:=g4.length;have l4:=h4.length
    by_cases hl:cs.length = ds.length
    ·rw [<- fH hl];have e1:cs.length = HN.toArray.size:=by rw [List.size_toArray];omega
     rw [e1];exact RcAt.lists gl ⟨_,h3,rfl,k,rfl⟩ (by rw [List.size_toArray,List.size_toArray];omega) fZ (items (by simp only [D.dep] at hn;omega) (by simp only [D.dep] at oJ;omega) g2 h2 g4 h4)
    ·rw [jn hl];exact RcAt.lists_lengths (items2:=its.toArray) gl ⟨_,h3,rfl,k,rfl⟩ (by rw [List.size_toArray,List.size_toArray];exact bne_iff_ne.mpr (by omega)) fZ
   | tup ds=>simp only [Rep] at he;obtain ⟨a,vs,rfl,h1,h2⟩:=he;cases (show u = Value.ref a from ry);obtain ⟨_,its,_,h3⟩:=(show ObjOk P w H s.heap a (.tup vs) from hok a _ h1);simp only [av];exact RcAt.list_tuple gl h3 fZ
  | tup cs =>
   simp only [Rep] at hd;obtain ⟨b,ws,rfl,g1,g2⟩:=hd
   cases (show v = Value.ref b from rx)
   obtain ⟨_,HN,g4,gl⟩:=(show ObjOk P w H s.heap b (.tup ws) from hok b _ g1)
   cases e with
   | dct=>simp only [D.dep] at oJ;omega
   | non=>simp only [Rep] at he;subst he;cases (show u = Value.none from ry);simp only [av];exact RcAt.tuple_none gl fZ
   | bl b=>simp only [Rep] at he;subst he;cases (show u = Value.bool b from ry);simp only [av];exact RcAt.tuple_bool _ gl fZ
   | int b=>simp only [Rep] at he;subst he;obtain ⟨t,rfl⟩:=ry;simp only [av];exact RcAt.tuple_int _ _ gl fZ
   | str b=>simp only [Rep] at he;subst he;obtain ⟨t,rfl⟩:=ry;simp only [av];exact RcAt.tuple_str _ _ gl fZ
   | lst ds=>simp only [Rep] at he;obtain ⟨a,vs,rfl,h1,h2⟩:=he;cases (show u = Value.ref a from ry);obtain ⟨_,its,k,_,h3⟩:=(show ObjOk P w H s.heap a (.lst vs) from hok a _ h1);simp only [av];exact RcAt.tuple_list (items2:=its.toArray) gl ⟨_,h3,rfl,k,rfl⟩ fZ
   | tup ds =>
    simp only [Rep] at he;obtain ⟨a,vs,rfl,h1,h2⟩:=he
    cases (show u = Value.ref a from ry)
    obtain ⟨_,its,h4,h3⟩:=(show ObjOk P w H s.heap a (.tup vs) from hok a _ h1);simp only [av];have l1:=g2.length;have l2:=h2.length;have l3:=g4.length;have l4:=h4.length;rw [<- mn (n:=HN.toArray.size) (m:=its.toArray.size) (by rw [List.size_toArray];omega) (by rw [List.size_toArray];omega) rfl];exact RcAt.tuples gl h3 fZ (items (by simp only [D.dep] at hn;omega) (by simp only [D.dep] at oJ;omega) g2 h2 g4 h4)
termination_by n=>n
decreasing_by all_goals simp_wf;omega
theorem CZ {P:Program} {w:World}:∀ (n:Nat) {A:Around} {s:Shared} {H:Hp} {d e:D} {x y:V} {v u:Value},HOk P w H s.heap->d.dep <= n->e.dep <= n->n < 1000->Rep H d x->Rep H e y->RelV x v->RelV y u->A.units + n < cLine->RcNeAt A s v u (!av d e)
 | n,A,s,H,d,e,x,y,v,u,hok,hn,oJ,eR,hd,he,rx,ry,hu=>by
  have fZ:A.units < cLine:=by omega
  have items:∀ {ds es:List D} {vs us:List V} {its gH:List Value},D.deps ds + 1 <= n->D.deps es + 1 <= n->Reps H ds vs->Reps H es us->Vals vs its->Vals us gH->∀ j (h1:j < its.toArray.size) (h2:j < gH.toArray.size),EqAt A.in1 s its.toArray[j] gH.toArray[j] (Bl ds es j):=by
   intro ds es vs us its gH RD OC r1 r2 v1 v2 j h1 h2;have l1:=r1.length;have l2:=r2.length;have l3:=v1.length;have l4:=v2.length;rw [List.size_toArray] at h1 h2;obtain ⟨a,ea,ra⟩:=r1.get (j:=j) (by omega);obtain ⟨b,eb,rb⟩:=r2.get (j:=j) (by omega);obtain ⟨va,OP,Kc⟩:=v1.get ea;obtain ⟨vb,OO,Nj⟩:=v2.get eb;have ga:its.toArray[j]'(by simpa using h1) = va:=by
    rw [List.getElem?_eq_getElem h1] at OP;simpa using Option.some.inj OP
   have gb:gH.toArray[j]'(by simpa using h2) = vb:=by
    rw [List.getElem?_eq_getElem h2] at OO;simpa using Option.some.inj OO
   rw [ga,gb];have WO:=D.dep_get ds j;have RC:=D.dep_get es j;refine oX (ra.noflt Kc) (fun z=>?_) (yb (n - 1) hok (by omega) (by omega) (by omega) ra rb Kc Nj (by rw [Around.in1_units];omega));subst z;have:=Kc.inj Nj;subst this;have:=ra.inj rb;unfold Bl;rw [this];exact eI _
  cases d with
  | dct=>simp only [D.dep] at hn;omega
  | non =>
   simp only [Rep] at hd;subst hd
   cases (show v = Value.none from rx)
   cases e with
   | dct=>simp only [D.dep] at oJ;omega
   | non=>simp only [Rep] at he;subst he;cases (show u = Value.none from ry);simp only [av];exact RcNeAt.none_none
   | bl b=>simp only [Rep] at he;subst he;cases (show u = Value.bool b from ry);simp only [av];exact RcNeAt.none_bool _
   | int b=>simp only [Rep] at he;subst he;obtain ⟨t,rfl⟩:=ry;simp only [av];exact RcNeAt.none_int _ _
   | str b=>simp only [Rep] at he;subst he;obtain ⟨t,rfl⟩:=ry;simp only [av];exact RcNeAt.none_str _ _
   | lst ds=>simp only [Rep] at he;obtain ⟨a,vs,rfl,h1,h2⟩:=he;cases (show u = Value.ref a from ry);obtain ⟨_,its,k,_,h3⟩:=(show ObjOk P w H s.heap a (.lst vs) from hok a _ h1);simp only [av];exact RcNeAt.none_list (items:=its.toArray) ⟨_,h3,rfl,k,rfl⟩ fZ
   | tup ds=>simp only [Rep] at he;obtain ⟨a,vs,rfl,h1,h2⟩:=he;cases (show u = Value.ref a from ry);obtain ⟨_,its,_,h3⟩:=(show ObjOk P w H s.heap a (.tup vs) from hok a _ h1);simp only [av];exact RcNeAt.none_tuple h3 fZ
  | bl c =>
   simp only [Rep] at hd;subst hd
   cases (show v = Value.bool c from rx)
   cases e with
   | dct=>simp only [D.dep] at oJ;omega
   | non=>simp only [Rep] at he;subst he;cases (show u = Value.none from ry);simp only [av];exact RcNeAt.bool_none _
   | bl b=>simp only [Rep] at he;subst he;cases (show u = Value.bool b from ry);simp only [av];exact RcNeAt.bool_bool _ _
   | int b=>simp only [Rep] at he;subst he;obtain ⟨t,rfl⟩:=ry;simp only [av];exact RcNeAt.bool_int _ _ _
   | str b=>simp only [Rep] at he;subst he;obtain ⟨t,rfl⟩:=ry;simp only [av];exact RcNeAt.bool_str _ _ _
   | lst ds=>simp only [Rep] at he;obtain ⟨a,vs,rfl,h1,h2⟩:=he;cases (show u = Value.ref a from ry);obtain ⟨_,its,k,_,h3⟩:=(show ObjOk P w H s.heap a (.lst vs) from hok a _ h1);simp only [av];exact RcNeAt.bool_list (items:=its.toArray) _ ⟨_,h3,rfl,k,rfl⟩ fZ
   | tup ds=>simp only [Rep] at he;obtain ⟨a,vs,rfl,h1,h2⟩:=he;cases (show u = Value.ref a from ry);obtain ⟨_,its,_,h3⟩:=(show ObjOk P w H s.heap a (.tup vs) from hok a _ h1);simp only [av];exact RcNeAt.bool_tuple _ h3 fZ
  | int c =>
   simp only [Rep] at hd;subst hd;obtain ⟨t',rfl⟩:=rx
   cases e with
   | dct=>simp only [D.dep] at oJ;omega
   | non=>simp only [Rep] at he;subst he;cases (show u = Value.none from ry);simp only [av];exact RcNeAt.int_none _ _
   | bl b=>simp only [Rep] at he;subst he;cases (show u = Value.bool b from ry);simp only [av];exact RcNeAt.int_bool _ _ _
   | int b=>simp only [Rep] at he;subst he;obtain ⟨t,rfl⟩:=ry;simp only [av];exact RcNeAt.int_int _ _ _ _
   | str b=>simp only [Rep] at he;subst he;obtain ⟨t,rfl⟩:=ry;simp only [av];exact RcNeAt.int_str _ _ _ _
   | lst ds=>simp only [Rep] at he;obtain ⟨a,vs,rfl,h1,h2⟩:=he;cases (show u = Value.ref a from ry);obtain ⟨_,its,k,_,h3⟩:=(show ObjOk P w H s.heap a (.lst vs) from hok a _ h1);simp only [av];exact RcNeAt.int_list (items:=its.toArray) _ _ ⟨_,h3,rfl,k,rfl⟩ fZ
   | tup ds=>simp only [Rep] at he;obtain ⟨a,vs,rfl,h1,h2⟩:=he;cases (show u = Value.ref a from ry);obtain ⟨_,its,_,h3⟩:=(show ObjOk P w H s.heap a (.tup vs) from hok a _ h1);simp only [av];exact RcNeAt.int_tuple _ _ h3 fZ
  | str c =>
   simp only [Rep] at hd;subst hd;obtain ⟨t',rfl⟩:=rx
   cases e with
   | dct=>simp only [D.dep] at oJ;omega
   | non=>simp only [Rep] at he;subst he;cases (show u = Value.none from ry);simp only [av];exact RcNeAt.str_none _ _
   | bl b=>simp only [Rep] at he;subst he;cases (show u = Value.bool b from ry);simp only [av];exact RcNeAt.str_bool _ _ _
   | int b=>simp only [Rep] at he;subst he;obtain ⟨t,rfl⟩:=ry;simp only [av];exact RcNeAt.str_int _ _ _ _
   | str b=>simp only [Rep] at he;subst he;obtain ⟨t,rfl⟩:=ry;simp only [av];exact RcNeAt.str_str _ _ _ _
   | lst ds=>simp only [Rep] at he;obtain ⟨a,vs,rfl,h1,h2⟩:=he;cases (show u = Value.ref a from ry);obtain ⟨_,its,k,_,h3⟩:=(show ObjOk P w H s.heap a (.lst vs) from hok a _ h1);simp only [av];exact RcNeAt.str_list (items:=its.toArray) _ _ ⟨_,h3,rfl,k,rfl⟩ fZ
   | tup ds=>simp only [Rep] at he;obtain ⟨a,vs,rfl,h1,h2⟩:=he;cases (show u = Value.ref a from ry);obtain ⟨_,its,_,h3⟩:=(show ObjOk P w H s.heap a (.tup vs) from hok a _ h1);simp only [av];exact RcNeAt.str_tuple _ _ h3 fZ
  | lst cs =>
   simp only [Rep] at hd;obtain ⟨b,ws,rfl,g1,g2⟩:=hd
   cases (show v = Value.ref b from rx)
   obtain ⟨_,HN,m,g4,g3⟩:=(show ObjOk P w H s.heap b (.lst ws) from hok b _ g1);have gl:s.heap.IsList b HN.toArray:=⟨_,g3,rfl,m,rfl⟩
   cases e with
   | dct=>simp only [D.dep] at oJ;omega
   | non=>simp only [Rep] at he;subst he;cases (show u = Value.none from ry);simp only [av];exact RcNeAt.list_none gl fZ
   | bl b=>simp only [Rep] at he;subst he;cases (show u = Value.bool b from ry);simp only [av];exact RcNeAt.list_bool _ gl fZ
   | int b=>simp only [Rep] at he;subst he;obtain ⟨t,rfl⟩:=ry;simp only [av];exact RcNeAt.list_int _ _ gl fZ
   | str b=>simp only [Rep] at he;subst he;obtain ⟨t,rfl⟩:=ry;simp only [av];exact RcNeAt.list_str _ _ gl fZ
   | lst ds =>
    simp only [Rep] at he;obtain ⟨a,vs,rfl,h1,h2⟩:=he
    cases (show u = Value.ref a from ry)
    obtain ⟨_,its,k,h4,h3⟩:=(show ObjOk P w H s.heap a (.lst vs) from hok a _ h1);simp only [av];have l1:=g2.length;have l2:=h2.length;have l3:=g4.length;have l4:=h4.length
    by_cases hl:cs.length = ds.length
    ·rw [<- fH hl];have e1:cs.length = HN.toArray.size:=by rw [List.size_toArray];omega
     rw [e1];exact RcNeAt.lists gl ⟨_,h3,rfl,k,rfl⟩ (by rw [List.size_toArray,List.size_toArray];omega) fZ (items (by simp only [D.dep] at hn;omega) (by simp only [D.dep] at oJ;omega) g2 h2 g4 h4)
    ·rw [jn hl];exact RcNeAt.lists_lengths (items2:=its.toArray) gl ⟨_,h3,rfl,k,rfl⟩ (by rw [List.size_toArray,List.size_toArray];exact bne_iff_ne.mpr (by omega)) fZ
   | tup ds=>simp only [Rep] at he;obtain ⟨a,vs,rfl,h1,h2⟩:=he;cases (show u = Value.ref a from ry);obtain ⟨_,its,_,h3⟩:=(show ObjOk P w H s.heap a (.tup vs) from hok a _ h1);simp only [av];exact RcNeAt.list_tuple gl h3 fZ
  | tup cs =>
   simp only [Rep] at hd;obtain ⟨b,ws,rfl,g1,g2⟩:=hd
   cases (show v = Value.ref b from rx)
   obtain ⟨_,HN,g4,gl⟩:=(show ObjOk P w H s.heap b (.tup ws) from hok b _ g1)
   cases e with
   | dct=>simp only [D.dep] at oJ;omega
   | non=>simp only [Rep] at he;subst he;cases (show u = Value.none from ry);simp only [av];exact RcNeAt.tuple_none gl fZ
   | bl b=>simp only [Rep] at he;subst he;cases (show u = Value.bool b from ry);simp only [av];exact RcNeAt.tuple_bool _ gl fZ
   | int b=>simp only [Rep] at he;subst he;obtain ⟨t,rfl⟩:=ry;simp only [av];exact RcNeAt.tuple_int _ _ gl fZ
   | str b=>simp only [Rep] at he;subst he;obtain ⟨t,rfl⟩:=ry;simp only [av];exact RcNeAt.tuple_str _ _ gl fZ
   | lst ds=>simp only [Rep] at he;obtain ⟨a,vs,rfl,h1,h2⟩:=he;cases (show u = Value.ref a from ry);obtain ⟨_,its,k,_,h3⟩:=(show ObjOk P w H s.heap a (.lst vs) from hok a _ h1);simp only [av];exact RcNeAt.tuple_list (items2:=its.toArray) gl ⟨_,h3,rfl,k,rfl⟩ fZ
   | tup ds =>
    simp only [Rep] at he;obtain ⟨a,vs,rfl,h1,h2⟩:=he
    cases (show u = Value.ref a from ry)
    obtain ⟨_,its,h4,h3⟩:=(show ObjOk P w H s.heap a (.tup vs) from hok a _ h1);simp only [av];have l1:=g2.length;have l2:=h2.length;have l3:=g4.length;have l4:=h4.length;rw [<- mn (n:=HN.toArray.size) (m:=its.toArray.size) (by rw [List.size_toArray];omega) (by rw [List.size_toArray];omega) rfl];exact RcNeAt.tuples gl h3 fZ (items (by simp only [D.dep] at hn;omega) (by simp only [D.dep] at oJ;omega) g2 h2 g4 h4)
section
variable {X:Cx}
def tw:R2:=fun x y H Q=>∃ d e,Rep H d x/\Rep H e y/\d.dep <= 100/\e.dep <= 100/\Q (.bl (av d e)) H
def ql:R2:=fun x y H Q=>∃ d e,Rep H d x/\Rep H e y/\d.dep <= 100/\e.dep <= 100/\Q (.bl (!av d e)) H
theorem fI (hu:X.A.units + 100 < cLine):OpR X (compareOp .Eq) tw:=by
 intro pins s σ H x y v u Q I rx ry h;obtain ⟨d,e,hd,he,hn,oJ,q⟩:=h;show wpAny _ _ (richCompare .Eq _ _) _ _ s;exact yb 100 I.hok hn oJ (by decide) hd he rx ry hu _ _ _ _ ⟨.bl (av d e),H,I,rfl,q⟩
theorem jJ (hu:X.A.units + 100 < cLine):OpR X (compareOp .NotEq) ql:=by
 intro pins s σ H x y v u Q I rx ry h;obtain ⟨d,e,hd,he,hn,oJ,q⟩:=h;show wpAny _ _ (richCompare .NotEq _ _) _ _ s;exact CZ 100 I.hok hn oJ (by decide) hd he rx ry hu _ _ _ _ ⟨.bl (!av d e),H,I,rfl,q⟩
end
end L2
namespace L2
open PySem PySem.Spec PyProof.Rows
variable {X:Cx} {K:W.Frag} {σ r:St} {H:Hp} {D:Ends} {Q:VK} {E:XK} {x v:V} {T:String} {b:Bool} {z:Str} {a p:Addr} {xs vs:List V} {i j:Int} {t:TA} {N:List Str} {sc:Scope} {A:Around} {s:Shared} {n:Nat} {g:TG} {tb:TS}
theorem vZ (K:W.Frag):W.kitOne K (.type "bool") (.type "bool") = some true:=by kernel_rfl
theorem vY (K:W.Frag):W.kitOne K (.type "int") (.type "int") = some true:=by kernel_rfl
theorem tX (K:W.Frag):W.kitOne K (.type "int") (.type "bool") = some false:=by kernel_rfl
theorem vX (K:W.Frag):W.kitOne K (.type "str") (.type "str") = some true:=by kernel_rfl
theorem tW (K:W.Frag):W.kitOne K (.type "list") (.type "list") = some true:=by kernel_rfl
theorem qv (K:W.Frag):W.kitOne K (.type "tuple") (.type "tuple") = some true:=by kernel_rfl
section
def Jc (K:W.Frag):List V->Hp->VK->Prop:=fun xs H Q=>∃ x T t b,xs = [x,.ty T]/\j4 K H x t/\W.kitOne K t (.type T) = some b/\Q (.bl b) H
theorem dv:bq X (.builtin "isinstance") (Jc X.K):=wR
theorem rA {t:Value} (ty:j4 K H x t) (hk:W.kitOne K t (.type T) = some b) (h:Q (.bl b) H):Jc K [x,.ty T] H Q:=⟨x,T,t,b,rfl,ty,hk,h⟩
def Di (K:W.Frag):List V->Hp->VK->Prop:=fun xs H Q=>∃ x n,xs = [x]/\Pa K x H n/\Q (.int n) H
theorem kQ:bq X (.builtin "len") (Di X.K):=EI
theorem FX (hz:z.length <= sizeLine) (h:Q (.int z.length) H):Di K [.str z] H Q:=⟨_,_,rfl,⟨hz,rfl⟩,h⟩
theorem FY (e:SqL K H a xs) (h:Q (.int xs.length) H):Di K [.ref a] H Q:=⟨_,_,rfl,.inl ⟨xs,e,rfl⟩,h⟩
theorem FW (e:SqT K H a xs) (h:Q (.int xs.length) H):Di K [.ref a] H Q:=⟨_,_,rfl,.inr ⟨xs,e,rfl⟩,h⟩
def KL:List V->Hp->VK->Prop:=fun xs H Q=>∃ i j,xs = [.int i,.int j]/\Q (.int (max i j)) H
def KJ:List V->Hp->VK->Prop:=fun xs H Q=>∃ i j,xs = [.int i,.int j]/\Q (.int (min i j)) H
theorem JH (hc:X.calm = true):bq X (.builtin "max") KL:=fun pins s σ H xs us Q I r h=>Br hc pins s σ H xs us Q I r (by
 obtain ⟨i,j,e,h⟩:=h;refine ⟨i,j,e,?_⟩;rw [show (if j > i then j else i) = max i j by split <;> omega]
 exact h)
theorem JG (hc:X.calm = true):bq X (.builtin "min") KJ:=fun pins s σ H xs us Q I r h=>Bq hc pins s σ H xs us Q I r (by
 obtain ⟨i,j,e,h⟩:=h;refine ⟨i,j,e,?_⟩;rw [show (if j < i then j else i) = min i j by split <;> omega]
 exact h)
theorem Km (h:Q (.int (max i j)) H):KL [.int i,.int j] H Q:=⟨i,j,rfl,h⟩
theorem Kl (h:Q (.int (min i j)) H):KJ [.int i,.int j] H Q:=⟨i,j,rfl,h⟩
def IY:List V->Hp->VK->Prop:=fun xs H Q=>∃ i,xs = [.int i]/\i.natAbs.log2 < 1920/\Q (.str (toString i)) H
theorem EK:bq X (.type "str") IY:=uw
theorem yc (hz:i.natAbs.log2 < 1920) (h:Q (.str (toString i)) H):IY [.int i] H Q:=⟨i,rfl,hz,h⟩
theorem Gb {sp:Sp} (h:t σ H fun vs H1=>sp vs H1 Q E):l9 sp [] E t σ H Q:=by
 unfold l9;simp only [List.append_nil];exact h
def mkT (xs:List V) (H:Hp) (Q:VK):Prop:=xs.length <= sizeLine/\∀ p H1,Same H H1->H1 p = some (.tup xs)->Q (.ref p) H1
def mkL (xs:List V) (H:Hp) (Q:VK):Prop:=xs.length <= sizeLine/\∀ p H1,H p = none->Same H H1->H1 p = some (.lst xs)->Q (.ref p) H1
def BU (t:TA):TE:=fun σ H Q=>t σ H fun xs H1=>mkT xs H1 Q
def B6 (t:TA):TE:=fun σ H Q=>t σ H fun xs H1=>mkL xs H1 Q
theorem GI {es:List Expr} {x1} {pos:Pos} (h:PA X es t):PE X (.Tuple es x1 pos) (BU t):=fun pins s σ H Q I hq =>
 wpAny_Tuple_spliced (bw (h pos pins s σ H _ I hq) fun us s1 ⟨xs,H1,I1,r,z,q⟩=>by
  have hf:H1 s1.heap.objs.size = none:=I1.fresh;exact ⟨r.length ▸ z,.ref s1.heap.objs.size,_,I1.laid (o:=.tup xs) (t':=s1.toks) (fun b u=>Heap.get?_push_of_some _) (Nat.le_refl _) ⟨z,us,r,_,Heap.get?_push_size _ rfl,rfl,_,rfl⟩,rfl,q _ _ (aE hf) ak⟩)
theorem GL {es:List Expr} {pos:Pos} (h:PA X es t):PE X (.List es pos) (B6 t):=fun pins s σ H Q I hq =>
 wpAny_List_spliced (bw (h pos pins s σ H _ I hq) fun us s1 ⟨xs,H1,I1,r,z,q⟩=>by
  have hf:H1 s1.heap.objs.size = none:=I1.fresh;exact ⟨r.length ▸ z,.ref s1.heap.objs.size,_,I1.laid (o:=.lst xs) (t':=s1.toks) (fun b u=>Heap.get?_push_of_some _) (Nat.le_refl _) ⟨z,us,0,r,Heap.get?_push_size _ rfl⟩,rfl,q _ _ hf (aE hf) ak⟩)
theorem Kj (hz:xs.length <= sizeLine) (h:∀ p H1,Same H H1->H1 p = some (.tup xs)->Q (.ref p) H1):mkT xs H Q:=⟨hz,h⟩
theorem Kk (hz:xs.length <= sizeLine) (h:∀ p H1,H p = none->Same H H1->H1 p = some (.lst xs)->Q (.ref p) H1):mkL xs H Q:=⟨hz,h⟩
theorem fW (e:SqL K H a xs) (g:uC xs i = some v) (h:Q v H):ML K (.ref a) (.int i) H Q:=.inl ⟨a,xs,i,v,rfl,rfl,e,g,h⟩
theorem Kr (e:SqT K H a xs) (g:uC xs i = some v) (h:Q v H):ML K (.ref a) (.int i) H Q:=.inr (.inl ⟨a,xs,i,v,rfl,rfl,e,g,h⟩)
theorem Ks {c:Nat} (hz:z.length <= sizeLine) (g:uC z.cps.toList i = some c) (h:Q (.str ⟨#[c]⟩) H):ML K (.str z) (.int i) H Q:=.inr (.inr ⟨z,i,c,rfl,rfl,hz,g,h⟩)
theorem C2 {lo hi:Option Int} (hz:z.length <= sizeLine) (h:Q (.str (Txt.slice z lo hi)) H):Gf K (.str z) lo hi H Q:=.inl ⟨z,rfl,hz,h⟩
theorem C3 {lo hi:Option Int} (e:SqL K H a xs) (h:∀ p H1,H p = none->Same H H1->H1 p = some (.lst (pF xs lo hi))->Q (.ref p) H1):Gf K (.ref a) lo hi H Q :=
 .inr (.inl ⟨a,xs,rfl,e,fun p hp=>h p _ hp (aE hp) ak⟩)
def Dk:R2:=fun x y H Q=>(y = .non/\Q (.bl (decide (x = .non))) H) \/ (∃ i j,x = .bl i/\y = .bl j/\Q (.bl (i == j)) H)
def nZ:R2:=fun x y H Q=>(y = .non/\Q (.bl (!decide (x = .non))) H) \/ (∃ i j,x = .bl i/\y = .bl j/\Q (.bl (i != j)) H)
theorem Lp:OpR X (compareOp .Is) Dk:=Li.or DI
theorem DL:OpR X (compareOp .IsNot) nZ:=GX.or vH
theorem Ku (h:Q (.bl (decide (x = .non))) H):Dk x .non H Q:=.inl ⟨rfl,h⟩
theorem Kw {i j:Bool} (h:Q (.bl (i == j)) H):Dk (.bl i) (.bl j) H Q:=.inr ⟨i,j,rfl,rfl,h⟩
theorem C5 (h:Q (.bl (!decide (x = .non))) H):nZ x .non H Q:=.inl ⟨rfl,h⟩
theorem C6 {i j:Bool} (h:Q (.bl (i != j)) H):nZ (.bl i) (.bl j) H Q:=.inr ⟨i,j,rfl,rfl,h⟩
theorem KD (h:Q (.bl (decide (i = j))) H):tw (.int i) (.int j) H Q:=⟨.int i,.int j,by simp only [Rep],by simp only [Rep],by simp [D.dep],by simp [D.dep],by simp only [av];rw [Bool.beq_eq_decide_eq];exact h⟩
theorem KA {i j:Str} (h:Q (.bl (decide (i = j))) H):tw (.str i) (.str j) H Q:=⟨.str i,.str j,by simp only [Rep],by simp only [Rep],by simp [D.dep],by simp [D.dep],by simp only [av];rw [Bool.beq_eq_decide_eq];exact h⟩
theorem KG {i j:Bool} (h:Q (.bl (i == j)) H):tw (.bl i) (.bl j) H Q:=⟨.bl i,.bl j,by simp only [Rep],by simp only [Rep],by simp [D.dep],by simp [D.dep],by simp only [av];exact h⟩
theorem Kh (h:Q (.bl (!decide (i = j))) H):ql (.int i) (.int j) H Q:=⟨.int i,.int j,by simp only [Rep],by simp only [Rep],by simp [D.dep],by simp [D.dep],by simp only [av];rw [Bool.beq_eq_decide_eq];exact h⟩
theorem Kf {i j:Str} (h:Q (.bl (!decide (i = j))) H):ql (.str i) (.str j) H Q:=⟨.str i,.str j,by simp only [Rep],by simp only [Rep],by simp [D.dep],by simp [D.dep],by simp only [av];rw [Bool.beq_eq_decide_eq];exact h⟩
theorem Ki {i j:Bool} (h:Q (.bl (!(i == j))) H):ql (.bl i) (.bl j) H Q:=⟨.bl i,.bl j,by simp only [Rep],by simp only [Rep],by simp [D.dep],by simp [D.dep],by simp only [av];exact h⟩
theorem Cd {n:Str}:start (n :: N) (v :: vs) = some v :: start N vs:=by simp [start]
theorem Cc {n:Str}:start (n :: N) [] = none :: start N []:=by simp [start,List.replicate_succ]
theorem Cb:start [] [] = []:=rfl
theorem XH {CX:E9} {P:Program} {w:World} {mg:Str->Option Value} {base:Heap} {q:Str} {f:Addr} {cd:Value} {outer:List Env}:(gc CX P w K mg base N q sc f cd A outer s H E).nox.K = K:=rfl
theorem Sj {CX:E9} {P:Program} {w:World} {mg:Str->Option Value} {base:Heap} {q:Str} {f:Addr} {cd:Value} {outer:List Env}:(gc CX P w K mg base N q sc f cd A outer s H E).K = K:=rfl
theorem OS {C:Addr} {ex:List Addr}:(X.comp sc N C s H ex).K = X.K:=rfl
theorem aH {k:Nat} (r:Room k A):A.units + 100 < cLine:=by have:=r.un;omega
theorem bJ {p A B:Prop} [Decidable p] (h1:p->A) (h2:¬ p->B):if decide p = true then A else B:=QV (fun h=>h1 (of_decide_eq_true h)) fun h=>h2 (fun z=>h (decide_eq_true z))
theorem Jm {A B:Prop} (h1:b = true->A) (h2:b = false->B):if b = true then A else B:=by cases b <;> simp_all
theorem t8 {A B:Prop} (h1:b = false->A) (h2:b = true->B):if (!b) = true then A else B:=by cases b <;> simp_all
end
section
theorem N2 {A B:Prop} (h:B):if (!true) = true then A else B:=by simpa using h
theorem N3 {A B:Prop} (h:A):if (!false) = true then A else B:=by simpa using h
def xq (J:It) (g:TG) (tb:TS) (D:Ends) (σ:St) (H:Hp):Prop:=∃ W:Nat->Nat->St->Hp->Prop,(∃ m,W 0 m σ H)/\∀ i m σ H,W i m σ H ->
 (J.stop i H/\D.nx σ H) \/ (J.go i H/\∃ N:St->Hp->Prop,(∀ σ' H',N σ' H'->∃ m',m' < m/\W (i + 1) m' σ' H')/\∀ x H',J.yld i H x H'->g x σ H' fun σ2 H2=>tb { D with nx:=N,ct:=N,bk:=D.nx } σ2 H2)
theorem FZ {t:BC} {R:St->Hp->Prop} (e:SqT K H a xs) (hn:xs.length = n) (h:t xs σ H R):Ie K n t (.ref a) σ H R:=⟨a,xs,rfl,e,hn,h⟩
theorem yf {P:Addr->Prop} (e:SqL K H a xs) (h:P a):∃ b,V.ref a = V.ref b/\(∃ xs,SqL K H b xs)/\P b:=⟨a,rfl,⟨xs,e⟩,h⟩
theorem Kz {P:Addr->Prop} (e:SqT K H a xs) (h:P a):∃ b,V.ref a = V.ref b/\(∃ xs,SqT K H b xs)/\P b:=⟨a,rfl,⟨xs,e⟩,h⟩
theorem Ga {P:Int->Prop} (h1:-(2 ^ 62) <= j/\j < 2 ^ 62) (h:P j):∃ k:Int,[V.int j] = [.int k]/\-(2 ^ 62) <= k/\k < 2 ^ 62/\P k:=⟨j,rfl,h1.1,h1.2,h⟩
theorem forL (Pv : Nat -> St -> Hp -> Prop) (h0 : Pv 0 σ H) (hl : ∀ i σ H, Pv i σ H -> SqL K H a xs)
    (hs:∀ i x σ H,i < xs.length->xs[i]? = some x->Pv i σ H->g x σ H fun σ2 H2=>tb { nx:=Pv (i + 1),rt:=D.rt,ct:=Pv (i + 1),bk:=D.nx } σ2 H2) (hd:∀ σ H,Pv xs.length σ H->D.nx σ H):xq (II K a) g tb D σ H :=
 Eo Pv h0 (fun i σ H _=>hl i σ H) (fun i x σ H e p=>hs i x σ H (List.getElem?_eq_some_iff.mp e).1 e p) hd
theorem RZ (Pv : Nat -> St -> Hp -> Prop) (h0 : Pv 0 σ H) (hl : ∀ i σ H, Pv i σ H -> SqT K H a xs)
    (hs:∀ i x σ H,i < xs.length->xs[i]? = some x->Pv i σ H->g x σ H fun σ2 H2=>tb { nx:=Pv (i + 1),rt:=D.rt,ct:=Pv (i + 1),bk:=D.nx } σ2 H2) (hd:∀ σ H,Pv xs.length σ H->D.nx σ H):xq (IH K a) g tb D σ H :=
 Ih Pv h0 (fun i σ H _=>hl i σ H) (fun i x σ H e p=>hs i x σ H (List.getElem?_eq_some_iff.mp e).1 e p) hd
theorem forR {lo : Int} (Pv : Nat -> St -> Hp -> Prop) (h0 : Pv 0 σ H)
    (hs:∀ i σ H,i < n->Pv i σ H->g (.int (lo + i)) σ H fun σ2 H2=>tb { nx:=Pv (i + 1),rt:=D.rt,ct:=Pv (i + 1),bk:=D.nx } σ2 H2) (hd:∀ σ H,Pv n σ H->D.nx σ H):xq (JI lo n) g tb D σ H :=
 Bh Pv h0 hs hd
theorem R0 (Pv : Nat -> St -> Hp -> Prop) (h0 : Pv 0 σ H)
    (hs:∀ i c σ H,i < z.cps.toList.length->z.cps.toList[i]? = some c->Pv i σ H->g (.str ⟨#[c]⟩) σ H fun σ2 H2=>tb { nx:=Pv (i + 1),rt:=D.rt,ct:=Pv (i + 1),bk:=D.nx } σ2 H2) (hd:∀ σ H,Pv z.cps.toList.length σ H->D.nx σ H):xq (P9 z) g tb D σ H:=by
 have hl:z.cps.toList.length = z.cps.size:=by simp
 refine ⟨fun i m σ H=>m = z.cps.size - i/\i <= z.cps.size/\Pv i σ H,⟨z.cps.size,by simp,Nat.zero_le _,h0⟩,?_⟩
 rintro i m σ H ⟨rfl,hi,p⟩
 by_cases eR:i < z.cps.size
 ·refine .inr ⟨eR,Pv (i + 1),fun σ' H' p'=>⟨z.cps.size - (i + 1),by omega,rfl,eR,p'⟩,fun x H' y=>?_⟩
  obtain ⟨e,c,hc,e'⟩:=y;subst e e';exact hs i c σ _ (by omega) (by simpa using hc) p
 ·have e:i = z.cps.size:=by omega
  subst e;exact .inl ⟨rfl,hd σ H (by rw [hl];exact p)⟩
def Nz (K:W.Frag):List V->Hp->VK->Prop:=fun xs H Q=>∃ (p:Addr) (bs:List Bool),xs = [.ref p]/\SqL K H p (bs.map V.bl)/\Q (.bl (bs.all id)) H
theorem OW (hc:X.calm = true):bq X (.builtin "all") (Nz X.K):=EJ hc
theorem KI (bs:List Bool) (e:SqL K H p (bs.map V.bl)) (h:Q (.bl (bs.all id)) H):Nz K [.ref p] H Q:=⟨p,bs,rfl,e,h⟩
def Ja (K:W.Frag):List V->Hp->VK->Prop:=fun xs H Q=>∃ p ys,xs = [.ref p]/\(SqL K H p ys \/ SqT K H p ys)/\∀ l,H l = none->Q (.ref l) (upd H l (.lst ys))
theorem Mq:bq X (.type "list") (Ja X.K):=ux
theorem C4 {ys:List V} (e:SqL K H p ys) (h:∀ l H1,H l = none->Same H H1->H1 l = some (.lst ys)->Q (.ref l) H1):Ja K [.ref p] H Q:=⟨p,ys,rfl,.inl e,fun l hl=>h l _ hl (aE hl) ak⟩
end
mutual
def Vh:L2.D->Bool
 | .str z=>decide (z.length <= sizeLine)
 | .lst ds=>J5 ds
 | .tup ds=>J5 ds
 | _=>true
def J5:List L2.D->Bool
 | []=>true
 | d :: ds=>Vh d && J5 ds
end
theorem Same.get {H1:Hp} {o:HO} (s:Same H H1) (e:H p = some o):H1 p = some o:=s p o e
theorem Same.tr {H1 H2:Hp} (s:Same H1 H2) (e:Same H H1):Same H H2:=fun p o h=>s p o (e p o h)
theorem Rep.str' {i:Str}:Rep H (.str i) (.str i):=by simp only [Rep]
theorem Rep.non':Rep H .non .non:=by simp only [Rep]
theorem Rep.mkT {ds:List L2.D} (h:H p = some (.tup vs)) (r:Reps H ds vs):Rep H (.tup ds) (.ref p):=by simp only [Rep];exact ⟨p,vs,rfl,h,r⟩
theorem Rep.mkL {ds:List L2.D} (h:H p = some (.lst vs)) (r:Reps H ds vs):Rep H (.lst ds) (.ref p):=by simp only [Rep];exact ⟨p,vs,rfl,h,r⟩
theorem Reps.nil':Reps H [] []:=by simp only [Reps]
theorem Reps.cons' {d:L2.D} {ds:List L2.D} (h:Rep H d v) (r:Reps H ds vs):Reps H (d :: ds) (v :: vs):=by simp only [Reps];exact ⟨v,vs,rfl,h,r⟩
theorem Reps.consE {d:L2.D} {ds:List L2.D} (h:Reps H (d :: ds) vs):∃ v r,vs = v :: r/\Rep H d v/\Reps H ds r:=by simp only [Reps] at h;exact h
theorem Reps.nilE (h:Reps H [] vs):vs = []:=by simp only [Reps] at h;exact h
theorem SqL.same {H':Hp} (s:Same H H') (e:SqL K H a xs):SqL K H' a xs:=s.seq e
class aV (g:Prop) (n:outParam Prop):Prop where
 imp:n->g
theorem Nn {g n:Prop} [h:aV g n] (k:n):g:=h.imp k
class GetS (σ:St) (i:Nat) (v:outParam V):Prop where
 get:σ[i]? = some (some v)
instance GetS.zero:GetS (some v :: r) 0 v:=⟨rfl⟩
instance GetS.succ {x:Option V} {i:Nat} [h:GetS r i v]:GetS (x :: r) (i + 1) v:=⟨by rw [List.getElem?_cons_succ];exact h.get⟩
class SetS (σ:St) (i:Nat) (v:Option V) (σ':outParam St):Prop where
 set:σ.set i v = σ'
instance SetS.zero {x v:Option V}:SetS (x :: r) 0 v (v :: r):=⟨rfl⟩
instance SetS.succ {x v:Option V} {r':St} {i:Nat} [h:SetS r i v r']:SetS (x :: r) (i + 1) v (x :: r'):=⟨by rw [List.set_cons_succ,h.set]⟩
class PickS (ix:List Nat) (σ:St) (σ':outParam St):Prop where
 eq:pick ix σ = σ'
instance PickS.nil:PickS [] σ []:=⟨rfl⟩
instance PickS.cons {i:Nat} {ix:List Nat} {σ σ':St} {v:V} [g:GetS σ i v] [h:PickS ix σ σ']:PickS (i :: ix) σ (some v :: σ'):=⟨by
 show ((σ[i]?).join :: pick ix σ) = _;rw [g.get,h.eq]
 rfl⟩
section
variable {σ':St} {t u:TS} {te ta tb tc:TE} {c c':TT} {R:Bool->Hp->Prop} {r r':R2} {a:Bool} {y:Str} {P A B:Prop}
instance i1:aV (BX t u D σ H) (t { D with nx:=u D } σ H):=⟨id⟩
instance i2:aV (B9 te g D σ H) (te σ H fun x H1=>g x σ H1 D.nx):=⟨id⟩
instance i3:aV (JO te D σ H) (te σ H D.rt):=⟨id⟩
instance i5:aV (B7 te D σ H) (te σ H fun _ H1=>D.nx σ H1):=⟨id⟩
instance i6:aV (B0 D σ H) (D.nx σ H):=⟨id⟩
instance i7:aV (JS c t u D σ H) (c σ H fun b H1=>if b = true then t D σ H1 else u D σ H1):=⟨id⟩
instance i8 [g:GetS σ n v]:aV (cn n σ H Q) (Q v H):=⟨fun h=>⟨v,g.get,h⟩⟩
instance i9:aV (tC v σ H Q) (Q v H):=⟨id⟩
instance ZX:aV (Fs r ta tb σ H Q) (ta σ H fun x H1=>tb σ H1 fun y H2=>r x y H2 Q):=⟨id⟩
instance ZW {r:V->Hp->VK->Prop}:aV (Qf r ta σ H Q) (ta σ H fun x H1=>r x H1 Q):=⟨id⟩
instance i12 {g:Int->Int->V}:aV (Ao g (.int i) (.int j) H Q) (Q (g i j) H):=⟨fun h=>⟨i,j,rfl,rfl,h⟩⟩
instance ZV {g:Int->V}:aV (rU g (.int i) H Q) (Q (g i) H):=⟨fun h=>⟨i,rfl,h⟩⟩
instance ZU:aV (oa K (.int i) (.int j) H Q) (Q (.int (i + j)) H):=⟨Ge⟩
instance ZT:aV (Dg (.int i) (.int j) H Q) (Q (.bl (decide (i < j))) H):=⟨Ko⟩
instance ZS:aV (Dg (.str z) (.str y) H Q) (Q (.bl (decide (z.cps.toList < y.cps.toList))) H):=⟨Kn⟩
instance ZR:aV (Dj (.int i) (.int j) H Q) (Q (.bl (decide (i <= j))) H):=⟨Kq⟩
instance ZQ:aV (Dj (.str z) (.str y) H Q) (Q (.bl (!decide (y.cps.toList < z.cps.toList))) H):=⟨Kp⟩
instance ZP:aV (tw (.int i) (.int j) H Q) (Q (.bl (decide (i = j))) H):=⟨KD⟩
instance ZO:aV (tw (.str z) (.str y) H Q) (Q (.bl (decide (z = y))) H):=⟨KA⟩
instance ZN:aV (tw (.bl a) (.bl b) H Q) (Q (.bl (a == b)) H):=⟨KG⟩
instance ZM:aV (ql (.int i) (.int j) H Q) (Q (.bl (!decide (i = j))) H):=⟨Kh⟩
instance ZL:aV (ql (.str z) (.str y) H Q) (Q (.bl (!decide (z = y))) H):=⟨Kf⟩
instance ZK:aV (ql (.bl a) (.bl b) H Q) (Q (.bl (!(a == b))) H):=⟨Ki⟩
instance ZJ:aV (BV te σ H R) (te σ H fun x H'=>∃ k,x = .bl k/\R k H'):=⟨id⟩
instance ZI:aV (tB te σ H R) (te σ H fun x H'=>∃ k,x = .bl k/\R k H'):=⟨id⟩
instance ZH {F:Bool->Prop}:aV (∃ c,V.bl a = V.bl c/\F c) (F a):=⟨fun h=>⟨a,rfl,h⟩⟩
instance ZG {F:Int->Prop}:aV (∃ c,V.int i = V.int c/\F c) (F i):=⟨fun h=>⟨i,rfl,h⟩⟩
instance ZF {F:Str->Prop}:aV (∃ c,V.str z = V.str c/\F c) (F z):=⟨fun h=>⟨z,rfl,h⟩⟩
instance ZE:aV (JX c c' σ H R) (c σ H fun b H1=>if b = true then c' σ H1 R else R false H1):=⟨id⟩
instance ZD:aV (Qh c c' σ H R) (c σ H fun b H1=>if b = true then R true H1 else c' σ H1 R):=⟨id⟩
instance ZC:aV (JP c σ H R) (c σ H fun b H1=>R (!b) H1):=⟨id⟩
instance ZA:aV (B' ta tb σ H Q) (ta σ H fun x H1=>∃ c,x = .bl c/\if c = true then tb σ H1 Q else Q (.bl false) H1):=⟨id⟩
instance Zz:aV (BZ ta σ H Q) (ta σ H fun x H1=>∃ c,x = .bl c/\Q (.bl (!c)) H1):=⟨id⟩
instance Zy {sp:Sp} {t:TA}:aV (l9 sp [] E t σ H Q) (t σ H fun vs H1=>sp vs H1 Q E):=⟨Gb⟩
instance Zx {r:List V->Hp->VK->Prop} {t:TA}:aV (JV r t σ H Q) (t σ H fun vs H1=>r vs H1 Q):=⟨id⟩
instance Zw {F:List V->Hp->Prop}:aV (gy σ H F) (F [] H):=⟨id⟩
instance Zv {tr:TA} {F:List V->Hp->Prop}:aV (cG ta tr σ H F) (ta σ H fun x H1=>tr σ H1 fun xs H2=>F (x :: xs) H2):=⟨id⟩
instance Zu {t:TA}:aV (BU t σ H Q) (t σ H fun xs H1=>mkT xs H1 Q):=⟨id⟩
instance Zt {t:TA}:aV (B6 t σ H Q) (t σ H fun xs H1=>mkL xs H1 Q):=⟨id⟩
instance Zs:aV (KL [.int i,.int j] H Q) (Q (.int (max i j)) H):=⟨Km⟩
instance Zr:aV (KJ [.int i,.int j] H Q) (Q (.int (min i j)) H):=⟨Kl⟩
instance Zq:aV (Dk x .non H Q) (Q (.bl (decide (x = .non))) H):=⟨Ku⟩
instance Zp:aV (Dk (.bl a) (.bl b) H Q) (Q (.bl (a == b)) H):=⟨Kw⟩
instance Zo:aV (nZ x .non H Q) (Q (.bl (!decide (x = .non))) H):=⟨C5⟩
instance Zn:aV (nZ (.bl a) (.bl b) H Q) (Q (.bl (a != b)) H):=⟨C6⟩
instance Zm {r:V->Option Int->Option Int->Hp->VK->Prop} {tl th:TO}:aV (Qg r te tl th σ H Q) (te σ H fun x H1=>tl σ H1 fun l H2=>th σ H2 fun u H3=>r x l u H3 Q):=⟨id⟩
instance Zl {F:Option Int->Hp->Prop}:aV (sO σ H F) (F none H):=⟨id⟩
instance Zk {F:Option Int->Hp->Prop}:aV (BY te σ H F) (te σ H fun x H1=>∃ i,x = .int i/\F (some i) H1):=⟨id⟩
instance Zj:aV (if true = true then A else B) A:=⟨QT⟩
instance Zi:aV (if false = true then A else B) B:=⟨QU⟩
instance Zh:aV (if (!true) = true then A else B) B:=⟨N2⟩
instance Zg:aV (if (!false) = true then A else B) A:=⟨N3⟩
instance Zf {ix:List Nat} {wi:TI}:aV (Ng ix wi c te σ H Q) (wi σ H fun J H1=>MD J ix σ c te Q H1):=⟨id⟩
instance Ze {wi:TI}:aV (JT wi g t D σ H) (wi σ H fun J H1=>xq J g t D σ H1):=⟨id⟩
instance Zd {F:St->Hp->Prop} [s:SetS σ n (some v) σ']:aV (jL n v σ H F) (F σ' H):=⟨fun h=>by show F (σ.set n (some v)) H;rw [s.set];exact h⟩
instance Zc {F:It->Hp->Prop}:aV (LM te σ H F) (te σ H fun x H1=>∃ z,x = .str z/\F (P9 z) H1):=⟨id⟩
instance Zb {F:It->Hp->Prop}:aV (zt K te σ H F) (te σ H fun x H1=>∃ a,x = .ref a/\(∃ xs,SqL K H1 a xs)/\F (II K a) H1):=⟨id⟩
instance Za {F:It->Hp->Prop}:aV (HS K te σ H F) (te σ H fun x H1=>∃ a,x = .ref a/\(∃ xs,SqT K H1 a xs)/\F (IH K a) H1):=⟨id⟩
instance Y' {t:TA} {F:It->Hp->Prop}:aV (zq t σ H F) (t σ H fun vs H1=>∃ j:Int,vs = [.int j]/\-(2 ^ 62) <= j/\j < 2 ^ 62/\F (JI 0 j.toNat) H1):=⟨id⟩
instance Y9 {F:St->Hp->Prop}:aV (Ig [] σ H F) (F σ H):=⟨fun h=>⟨rfl,h⟩⟩
instance Y8 {gs:BC} {F:St->Hp->Prop}:aV (wy g gs (v :: vs) σ H F) (g v σ H fun σ' H'=>gs vs σ' H' F):=⟨fun h=>⟨v,vs,rfl,h⟩⟩
instance Y7:aV (zZ σ H R) (R true H):=⟨id⟩
class nz (n T:String) (b:outParam Bool):Prop where
 eq:∀ K:W.Frag,W.kitOne K (.type n) (.type T) = some b
instance:nz "bool" "bool" true:=⟨vZ⟩
instance:nz "int" "int" true:=⟨vY⟩
instance:nz "int" "bool" false:=⟨tX⟩
instance:nz "str" "str" true:=⟨vX⟩
instance:nz "list" "list" true:=⟨tW⟩
instance:nz "tuple" "tuple" true:=⟨qv⟩
instance Y6 [k:nz "NoneType" T b]:aV (Jc K [.non,.ty T] H Q) (Q (.bl b) H):=⟨rA .non (k.eq K)⟩
instance Y5 [k:nz "bool" T b]:aV (Jc K [.bl a,.ty T] H Q) (Q (.bl b) H):=⟨rA (.bl a) (k.eq K)⟩
instance Y4 [k:nz "int" T b]:aV (Jc K [.int i,.ty T] H Q) (Q (.bl b) H):=⟨rA (.int i) (k.eq K)⟩
instance Y3 [k:nz "str" T b]:aV (Jc K [.str z,.ty T] H Q) (Q (.bl b) H):=⟨rA (.str z) (k.eq K)⟩
theorem Kv [k:nz "list" T b] (e:H p = some (.lst xs)) (h:Q (.bl b) H):Jc K [.ref p,.ty T] H Q:=rA (.lst e) (k.eq K) h
theorem Kt [k:nz "tuple" T b] (e:H p = some (.tup xs)) (h:Q (.bl b) H):Jc K [.ref p,.ty T] H Q:=rA (.tup e) (k.eq K) h
end
end L2
namespace L2
open PySem PySem.Spec PyProof.Rows PySem.SeqAt
open AutoSeq1 (wpAny_loadPart')
end L2
namespace L2
open PySem PySem.Spec PyProof.Rows
variable {X:Cx} {e o tg:Expr} {es:List Expr} {te:TE} {t:TA} {pos p2:Pos} {x:Str} {v:V} {T:String} {r:R2} {k:Nat} {i:Int} {K:W.Frag} {H:Hp} {Q:VK} {xs:List V} {σ:St} {p:Addr} {b:Bool}
structure BE (X:Cx) (e:Expr) (t:TE):Prop where
 h:PE X e t
structure BT (X:Cx) (e:Expr) (t:TT):Prop where
 h:PT X e t
structure BW (X:Cx) (e:Expr) (t:TT):Prop where
 h:PW X e t
structure BA (X:Cx) (es:List Expr) (t:TA):Prop where
 h:PA X es t
structure BS (X:Cx) (s:Stmt) (t:TS):Prop where
 h:PS X s t
structure BD (X:Cx) (s:List Stmt) (t:TS):Prop where
 h:PSs X s t
structure BG (X:Cx) (e:Expr) (t:TG):Prop where
 h:PG X e t
structure Qd (X:Cx) (e:List Expr) (t:BC):Prop where
 h:O7 X e t
structure BI (X:Cx) (tg e:Expr) (t:TI):Prop where
 h:PI X tg e t
structure BO (X:Cx) (e:Option Expr) (t:TO):Prop where
 h:PO X e t
structure BF (X:Cx) (es:List Expr) (t:TT):Prop where
 h:Bv X es t
section
variable {a b c:Expr} {ta tb tc:TE} {tA Ft:TT} {p:Pos} {st:Stmt} {rest xs ys:List Stmt} {s u:TS}
theorem bv (i : Nat) (hN : X.N[i]? = some x := by rfl) (hv : P4 X.env.scope x := by first | exact Or.inl rfl | exact Or.inr (Or.inl rfl) | exact Or.inr (Or.inr rfl)) (hd : (x == ("__debug__" : Str)) = false := by decide)
    (jF:(x == ("__classdict__":Str)) = false:=by decide):BE X (.Name x pos) (cn i):=⟨pv i hN hv hd jF⟩
theorem b_int {i j}:BE X (.Constant (.int i) j pos) (tC (.int i)):=⟨La⟩
theorem jG {i j}:BE X (.Constant (.bool i) j pos) (tC (.bl i)):=⟨NL⟩
theorem fN {j}:BE X (.Constant .none j pos) (tC .non):=⟨K8⟩
theorem b_str {x j}:BE X (.Constant (.str x) j pos) (tC (.str x)):=⟨K5⟩
theorem yJ (h:∃ u,X.mg x = some u/\RelV v u) (hg:Gl X x:=by rfl) (hd:(x == ("__debug__":Str)) = false:=by decide):BE X (.Name x pos) (tC v):=⟨NJ h hg hd⟩
theorem wX (hm:X.mg x = none) (hv:bootBuiltins x = some (.type T)) (hg:Gl X x:=by rfl) (hn:x ≠ "__name__":=by decide) (hd:(x == ("__debug__":Str)) = false:=by decide):BE X (.Name x pos) (tC (.ty T)):=⟨NF hm hv hg hn hd⟩
theorem ax {op:Operator} (ho:OpR X (binaryOp op) r) (ha:BE X a ta) (hb:BE X b tb):BE X (.BinOp a op b pos) (Fs r ta tb):=⟨NG ho ha.h hb.h⟩
theorem EV {op:UnaryOp} {r:V->Hp->VK->Prop} (ho:P5 X (unaryOp op) r) (ha:BE X a ta):BE X (.UnaryOp op a pos) (Qf r ta):=⟨ND ho ha.h⟩
theorem O0 (ha:BE X a ta):BE X (.UnaryOp .Not a pos) (BZ ta):=⟨K7 ha.h⟩
theorem zL {op:CmpOp} (ho:OpR X (compareOp op) r) (ha:BE X a ta) (hb:BE X b tb) (hm:behindInMarks op b = false):BE X (.Compare a [op] [b] pos) (Fs r ta tb):=⟨GQ ho ha.h hb.h hm⟩
theorem EW {op} (h:BE X a ta):BE X (.BoolOp op [a] pos) ta:=⟨K6 h.h⟩
theorem EZ (ha:BE X a ta) (hb:BE X (.BoolOp .And (b :: es) pos) tb):BE X (.BoolOp .And (a :: b :: es) pos) (B' ta tb):=⟨Ld ha.h hb.h⟩
theorem ae:BA X [] gy:=⟨Le⟩
theorem af (ha:BE X e te) (hr:BA X es t) (h:isStar e = false):BA X (e :: es) (cG te t):=⟨QB ha.h hr.h h⟩
theorem fO (h:BA X es t):BE X (.List es pos) (B6 t):=⟨GL h.h⟩
theorem eV {x1} (h:BA X es t):BE X (.Tuple es x1 pos) (BU t):=⟨GI h.h⟩
theorem jx:BO X none sO:=⟨Gv⟩
theorem jw (h:BE X e te):BO X (some e) (BY te):=⟨Gu h.h⟩
theorem jy {lo hi:Option Expr} {tl th:TO} {r:V->Option Int->Option Int->Hp->VK->Prop} (hr:SlR X r) (he:BE X e te) (hl:BO X lo tl) (hu:BO X hi th):BE X (.Subscript e (.Slice lo hi none p2) pos) (Qg r te tl th):=⟨Dy hr he.h hl.h hu.h⟩
theorem bp (hr:IxR X r) (ha:BE X a ta) (hb:BE X b tb) (hs:zN b):BE X (.Subscript a b pos) (Fs r ta tb):=⟨NI hr ha.h hb.h hs⟩
theorem dB {sf : Stmt} {ps : List Str} {f : Addr} {fd : FuncData} {sp : Sp} (N : Fn X.K X.mg x sf ps f fd) (G : FnOk X.prog X.w X.K X.mg X.base bR k f fd ps sp) (hr : Room k X.A) (ha : BA X (e :: es) t) (hg : Gl X x := by rfl) (iw : (x == ("__debug__" : Str)) = false := by decide) (h1 : isStar e = false := by rfl) (h2 : noStar es = true := by rfl) :
    BE X (.Call (.Name x p) (e :: es) [] pos) (l9 sp [] E0 t):=⟨Qz N G hr ha.h hg iw h1 h2⟩
theorem mD {id : String} {r : List V -> Hp -> VK -> Prop} (hc : bq X (.builtin id) r) (hm : X.mg x = none) (hv : bootBuiltins x = some (.builtin id)) (ha : BA X (e :: es) t) (hg : Gl X x := by rfl) (hn : x ≠ "__name__" := by decide) (iw : (x == ("__debug__" : Str)) = false := by decide) (h1 : isStar e = false := by rfl) (h2 : noStar es = true := by rfl) :
    BE X (.Call (.Name x p) (e :: es) [] pos) (JV r t):=⟨QA hc hm hv ha.h hg hn iw h1 h2⟩
theorem IA {r : List V -> Hp -> VK -> Prop} (hc : bq X (.type T) r) (hm : X.mg x = none) (hv : bootBuiltins x = some (.type T)) (ha : BA X (e :: es) t) (hg : Gl X x := by rfl) (hn : x ≠ "__name__" := by decide) (iw : (x == ("__debug__" : Str)) = false := by decide) (h1 : isStar e = false := by rfl) (h2 : noStar es = true := by rfl) :
    BE X (.Call (.Name x p) (e :: es) [] pos) (JV r t):=⟨Qy hc hm hv ha.h hg hn iw h1 h2⟩
theorem OZ (hm:X.mg "range" = none) (ha:BA X [a] t) (hg:Gl X "range":=by rfl) (h1:isStar a = false:=by rfl):BI X tg (.Call (.Name "range" p) [a] [] pos) (zq t):=⟨NC hm ha.h hg h1⟩
theorem bo (h:BE X e te):BI X tg e (zt X.K te):=⟨Gz h.h⟩
theorem yF (h:BE X e te):BI X tg e (HS X.K te):=⟨K2 h.h⟩
theorem Mx (h:BE X e te):BI X tg e (LM te):=⟨K3 h.h⟩
theorem hZ:BF X [] zZ:=⟨Dt⟩
theorem ES (h:BT X c tA):BF X [c] tA:=⟨Ds h.h⟩
theorem wY {elt iter : Expr} {ifs : List Expr} {px : Pos} {scope osc : Scope} {fv : List Str} {ix : List Nat} {wi : TI} {tt : TT} (hc : X.calm = true) (S₀ : LcScope scope x fv osc) (wm : ix.map (fun i => X.N[i]?) = fv.map some) (hi : BI X (.Name x px) iter wi)
    (ht:∀ (C:Addr) (s₀:Shared) (H₀:Hp) (ex:List Addr),BF (X.comp scope (x :: fv) C s₀ H₀ ex) ifs tt) (he:∀ (C:Addr) (s₀:Shared) (H₀:Hp) (ex:List Addr),BE (X.comp scope (x :: fv) C s₀ H₀ ex) elt te)
    (oI:X.env.scope = osc:=by rfl) (hs:∀ x,foldedSetIterable iter X.env x = pure x:=by intro _;rfl):BE X (.ListComp elt [⟨.Name x px,iter,ifs,0⟩] scope pos) (Ng ix wi tt te) :=
 ⟨NH hc S₀ wm hi.h (fun C s₀ H₀ ex=>(ht C s₀ H₀ ex).h) (fun C s₀ H₀ ex=>(he C s₀ H₀ ex).h) oI hs⟩
theorem ay {op:CmpOp} (ho:OpR X (compareOp op) r) (ha:BE X a ta) (hb:BE X b tb) (hm:behindInMarks op b = false):BT X (.Compare a [op] [b] pos) (BV (Fs r ta tb)):=⟨Gn ho ha.h hb.h hm⟩
theorem cT (h:BE X e te) (he:∀ whole,isTrue e X.env whole = (do let v <- whole;standAt e.pos;holding [v] (truthy v))):BT X e (tB te):=⟨KR h.h he⟩
theorem c8 (h:BT X a tA):BT X (.UnaryOp .Not a pos) (JP tA):=⟨KS h.h⟩
theorem hX (h:BW X e tA):BT X e tA:=⟨h.h.pt⟩
theorem fM (h:BT X a tA):BW X (.BoolOp .And [a] pos) tA:=⟨Gg h.h⟩
theorem eU (h:BT X a tA):BW X (.BoolOp .Or [a] pos) tA:=⟨KO h.h⟩
theorem iQ (ha:BT X a tA) (hb:BW X (.BoolOp .And (b :: es) pos) Ft):BW X (.BoolOp .And (a :: b :: es) pos) (JX tA Ft):=⟨KP ha.h hb.h⟩
theorem gO (ha:BT X a tA) (hb:BW X (.BoolOp .Or (b :: es) pos) Ft):BW X (.BoolOp .Or (a :: b :: es) pos) (Qh tA Ft):=⟨NA ha.h hb.h⟩
theorem aA:BD X [] B0:=⟨Gq⟩
theorem ag (h1:BS X st s) (h2:BD X rest u):BD X (st :: rest) (BX s u):=⟨Dn h1.h h2.h⟩
theorem ai (h:BS X st s):BD X [st] s:=⟨Gp h.h⟩
theorem wV:BS X (.Continue pos) B8:=⟨vD⟩
theorem jv (h:BE X e te) (hs:swapsWith e none pos.line X.env = pure false:=by rfl):BS X (.Expr e pos) (B7 te):=⟨Gr h.h hs⟩
theorem aq (h:BE X e te):BS X (.Return (some e) pos) (JO te):=⟨KW h.h⟩
theorem bh (hc:BT X c tA) (ha:BD X xs s) (hb:BD X ys u):BS X (.If c xs ys pos) (JS tA s u):=⟨NB hc.h ha.h hb.h⟩
theorem aw {i : Nat} {pos' : Pos} (hN : X.N.Nodup) (hi : X.N[i]? = some x) (hx : Loc X.env.scope x) (he : BE X e te) (hs : swapsWith e (some (.Name x pos')) pos.line X.env = pure false := by rfl) (hf : X.fn x = true \/ X.env.scope.names.lookup x = some .local := by first | exact .inl rfl | exact .inr rfl | assumption) :
    BS X (.Assign [.Name x pos'] e pos) (B9 te (jL i)):=⟨KU hN hi hx he.h hs hf⟩
theorem bA {i:Nat} (hN:X.N.Nodup) (hi:X.N[i]? = some x) (hx:Loc X.env.scope x) (hf:X.fn x = true \/ X.env.scope.names.lookup x = some .local:=by first | exact .inl rfl | exact .inr rfl | assumption):BG X (.Name x pos) (jL i):=⟨tE hN hi hx hf⟩
theorem zH:Qd X [] Ig:=⟨ze⟩
theorem kR {g:TG} {gs:BC} (h1:BG X e g) (h2:Qd X es gs) (hs:(assignEach (e :: es) X.env).map (·.2) = assign e X.env :: (assignEach es X.env).map (·.2):=by rfl):Qd X (e :: es) (wy g gs):=⟨og h1.h h2.h hs⟩
theorem ER {gs:BC} {n:Nat} (hc:X.calm = true) (h:Qd X es gs) (hn:(assignEach es X.env).length = n:=by rfl) (xC:(assignEach es X.env).findIdx? (·.1) = none:=by rfl):BG X (.Tuple es k pos) (Ie X.K n gs):=⟨Dv hc h.h hn xC⟩
theorem cF {iter:Expr} {wi:TI} {g:TG} (hp:PassesOwn (model X.prog X.w) X.A X.env X.xe) (hc:X.calm = true) (hi:BI X tg iter wi) (hg:BG X tg g) (hb:BD X xs s) (hs:∀ x,foldedSetIterable iter X.env x = pure x:=by intro _;rfl):BS X (.For tg iter xs [] pos) (JT wi g s):=⟨KY hp hc hi.h hg.h hb.h hs⟩
end
instance k0 {A B:Prop}:aV (if (true == true) = true then A else B) A:=⟨fun h=>by simpa using h⟩
instance k1 {A B:Prop}:aV (if (true != true) = true then A else B) B:=⟨fun h=>by simpa using h⟩
instance k2 {A B:Prop}:aV (if (true == false) = true then A else B) B:=⟨fun h=>by simpa using h⟩
instance k3 {A B:Prop}:aV (if (true != false) = true then A else B) A:=⟨fun h=>by simpa using h⟩
instance k4 {A B:Prop}:aV (if (false == true) = true then A else B) B:=⟨fun h=>by simpa using h⟩
instance k5 {A B:Prop}:aV (if (false != true) = true then A else B) A:=⟨fun h=>by simpa using h⟩
instance k6 {A B:Prop}:aV (if (false == false) = true then A else B) A:=⟨fun h=>by simpa using h⟩
instance k7 {A B:Prop}:aV (if (false != false) = true then A else B) B:=⟨fun h=>by simpa using h⟩
theorem nE {a:Addr} (e:SqL K H a xs) (h0:0 <= i) (h1:i < xs.length) (h:∀ v ∈ xs,Q v H):ML K (.ref a) (.int i) H Q:=by
 obtain ⟨j,rfl⟩:∃ j:Nat,i = j:=⟨i.toNat,by omega⟩;have hj:j < xs.length:=by omega
 exact fW e (kT (List.getElem?_eq_getElem hj)) (h _ (List.getElem_mem hj))
section
variable {P:Program} {w:World} {mg:Str->Option Value} {base:Heap}
theorem Fun.okB {qual : Str} {st : Stmt} {f : Addr} {fd : FuncData} {N ps : List Str} {sp : Sp} (F : Fun K x qual st f fd) (S : ao N ps (ab st)) (len : ∀ vs H Q E, sp vs H Q E -> vs.length = ps.length)
    (du:∀ (aT:Value) (A:Around) (outer:List Env) (s:Shared) (H:Hp) (vs:List V) (Q:VK) (E:XK),Room k (A.deeper (envOfC qual (ab st) s.heap.objs.size f aT))->sp vs H Q E ->
     ∃ t,BD (gc bR P w K mg base N qual (ab st) f aT A outer s H E).nox (aS st) t/\t { nx:=fun _ H'=>Q .non H',rt:=Q } (start N vs) H):FnOk P w K mg base bR (k + 1) f fd ps sp :=
 F.ok S len fun aT A outer s H vs Q E hr hs=>let ⟨t,h,q⟩:=du aT A outer s H vs Q E hr hs;⟨t,h.h,q⟩
end
section
variable {to:TE} {apos cu:Pos}
def N5 {α:Type} (k:Nat) (y:α) (xs:List α):List α:=xs.take k ++ y :: xs.drop k
theorem lW (ho : BE X o to) (ha : BA X (e :: es) t) (gK : attributeBase o "append" X.env (eval o X.env) = eval o X.env := by rfl)
    (ug:((backTo cu (starEach (e :: es) X.env)).all (fun x=>!x.1) && (backToKw cu (keywordEach [] X.env)).all (fun x=>x.1.isSome)
     && decide ((e :: es).length + ([]:List Keyword).length + (if ([]:List Keyword).isEmpty then 0 else 1) < 30)) = true:=by rfl)
    (gJ:(apos.endLine == cu.line) = true:=by rfl) (h1:isStar e = false:=by rfl) (h2:noStar es = true:=by rfl) :
    BE X (.Call (.Attribute o "append" apos) (e :: es) [] cu) (MH X.K "list" tD to t) :=
 ⟨zh F.plainAttrs_list F.slot_list_append F.type_list_append AI ho.h ha.h gK ug gJ (aG h1) (bL h2)⟩
instance j1 {r:V->List V->Hp->VK->Prop}:aV (MH K T r to t σ H Q) (to σ H fun x H1=>JK K T x H1/\t σ H1 fun xs H2=>r x xs H2 Q):=⟨id⟩
theorem KH {P:Prop} (e:H p = some (.lst xs)) (h:P):JK K "list" (.ref p) H/\P:=⟨.inl ⟨rfl,_,SqL.of e⟩,h⟩
theorem lz {l:Addr} {y:V} (e:H l = some (.lst xs)) (hz:xs.length < sizeLine) (h:Q .non (upd H l (.lst (xs ++ [y])))):tD (.ref l) [y] H Q:=⟨l,xs,y,rfl,rfl,e,hz,h⟩
instance j3 {A B:Prop}:aV (if (!(b == b)) = true then A else B) B:=⟨fun h=>by simpa using h⟩
instance GetS.pick {ix:List Nat} {σ':St} {i:Nat} [p:PickS ix σ σ'] [g:GetS σ' i v]:GetS (pick ix σ) i v:=⟨by rw [p.eq];exact g.get⟩
end
instance n0 {A B:Prop} :aV (if decide ((.non:V) = .non) = true then A else B) A:=⟨fun h=>by simpa using h⟩
instance n1 {A B:Prop} :aV (if (!decide ((.non:V) = .non)) = true then A else B) B:=⟨fun h=>by simpa using h⟩
instance n2 {A B:Prop}:aV (if decide (((.ref p):V) = .non) = true then A else B) B:=⟨fun h=>by simpa using h⟩
instance n3 {A B:Prop}:aV (if (!decide (((.ref p):V) = .non)) = true then A else B) A:=⟨fun h=>by simpa using h⟩
instance n4 {A B:Prop}:aV (if decide (((.int i):V) = .non) = true then A else B) B:=⟨fun h=>by simpa using h⟩
instance n5 {A B:Prop}:aV (if (!decide (((.int i):V) = .non)) = true then A else B) A:=⟨fun h=>by simpa using h⟩
instance n6 {A B:Prop} {z:Str}:aV (if decide (((.str z):V) = .non) = true then A else B) B:=⟨fun h=>by simpa using h⟩
instance n7 {A B:Prop} {z:Str}:aV (if (!decide (((.str z):V) = .non)) = true then A else B) A:=⟨fun h=>by simpa using h⟩
instance n8 {A B:Prop}:aV (if decide (((.bl b):V) = .non) = true then A else B) B:=⟨fun h=>by simpa using h⟩
instance n9 {A B:Prop}:aV (if (!decide (((.bl b):V) = .non)) = true then A else B) A:=⟨fun h=>by simpa using h⟩
section
theorem Lq (h:X.K = K):OpR X (binaryOp .Add) (oa K):=h ▸ bE
theorem eh (h:X.K = K):IxR X (ML K):=h ▸ aC
theorem Mt (h:X.K = K):bq X (.builtin "len") (Di K):=h ▸ kQ
end
abbrev Ent:=Str × Int × L2.D
def au (e:Ent):L2.D:=.tup [.str e.1,.int e.2.1,e.2.2]
theorem Reps.at {H:Hp} {α:Type} {f:α->L2.D}:∀ {es:List α} {vs:List V} {j:Nat} {v:V},Reps H (es.map f) vs->vs[j]? = some v->∃ e,es[j]? = some e/\Rep H (f e) v
 | [],vs,j,v,h,e=>by
  rw [List.map_nil] at h;rw [h.nilE] at e;simp at e
 | x :: es,vs,j,v,h,e=>by
  rw [List.map_cons] at h;obtain ⟨u,r,rfl,h1,h2⟩:=h.consE
  cases j with
  | zero =>
   simp at e;subst e;exact ⟨x,rfl,h1⟩
  | succ j =>
   obtain ⟨y,e1,e2⟩:=Reps.at (es:=es) (j:=j) h2 (by simpa using e);exact ⟨y,by simpa using e1,e2⟩
mutual
def NR:L2.D->Bool
 | .lst _=>false
 | .dct=>false
 | .tup ds=>Hm ds
 | _=>true
def Hm:List L2.D->Bool
 | []=>true
 | d :: ds=>NR d && Hm ds
end
def Tups (H H':Hp):Prop:=∀ b xs,H b = some (.tup xs)->H' b = some (.tup xs)
mutual
theorem Rep.stay {H H':Hp} (s:Tups H H'):∀ {d:L2.D} {v:V},NR d = true->Rep H d v->Rep H' d v
 | .non,v,_,h=>by simp only [Rep] at h ⊢;exact h
 | .bl b,v,_,h=>by simp only [Rep] at h ⊢;exact h
 | .int b,v,_,h=>by simp only [Rep] at h ⊢;exact h
 | .str b,v,_,h=>by simp only [Rep] at h ⊢;exact h
 | .lst ds,v,n,h=>by simp only [NR] at n;cases n
 | .dct,v,n,h=>by simp only [NR] at n;cases n
 | .tup ds,v,n,h=>by
  simp only [NR] at n;simp only [Rep] at h ⊢;obtain ⟨a,vs,e,h1,h2⟩:=h;exact ⟨a,vs,e,s _ _ h1,Reps.stay s n h2⟩
theorem Reps.stay {H H':Hp} (s:Tups H H'):∀ {ds:List L2.D} {vs:List V},Hm ds = true->Reps H ds vs->Reps H' ds vs
 | [],vs,_,h=>by simp only [Reps] at h ⊢;exact h
 | d :: ds,vs,n,h=>by
  simp only [Hm,Bool.and_eq_true] at n;simp only [Reps] at h ⊢;obtain ⟨v,r,e,h1,h2⟩:=h;exact ⟨v,r,e,Rep.stay s n.1 h1,Reps.stay s n.2 h2⟩
end
theorem bC {H1:Hp} {l:Addr} {o:HO} (s:Same H H1) (h:H l = none):Same H (upd H1 l o):=fun b u e=>by
 rw [aj (aY e h)];exact s b u e
theorem Reps.take {H:Hp}:∀ {ds:List L2.D} {vs:List V} (n:Nat),Reps H ds vs->Reps H (ds.take n) (vs.take n)
 | ds,vs,0,_=>by rw [List.take_zero,List.take_zero];exact Reps.nil'
 | [],vs,n + 1,h=>by rw [h.nilE];exact Reps.nil'
 | d :: ds,vs,n + 1,h=>by
  obtain ⟨v,r,rfl,h1,h2⟩:=h.consE;exact Reps.cons' h1 (Reps.take n h2)
theorem Reps.drop {H:Hp}:∀ {ds:List L2.D} {vs:List V} (n:Nat),Reps H ds vs->Reps H (ds.drop n) (vs.drop n)
 | ds,vs,0,h=>h
 | [],vs,n + 1,h=>by rw [h.nilE];exact Reps.nil'
 | d :: ds,vs,n + 1,h=>by
  obtain ⟨v,r,rfl,h1,h2⟩:=h.consE;exact Reps.drop n h2
theorem Reps.append {H:Hp}:∀ {ds es:List L2.D} {vs us:List V},Reps H ds vs->Reps H es us->Reps H (ds ++ es) (vs ++ us)
 | [],es,vs,us,h,h'=>by rw [h.nilE];exact h'
 | d :: ds,es,vs,us,h,h'=>by
  obtain ⟨v,r,rfl,h1,h2⟩:=h.consE;exact Reps.cons' h1 (Reps.append h2 h')
theorem Reps.ins {H:Hp} {ds:List L2.D} {vs:List V} {d:L2.D} {v:V} (k:Nat) (h:Reps H ds vs) (h1:Rep H d v):Reps H (N5 k d ds) (N5 k v vs):=(h.take k).append (Reps.cons' h1 (h.drop k))
section
variable {to:TE} {apos cu:Pos}
def MF (i j:Int):Prop:=0 <= j/\(Builtin.Int.intBits i:Int) + j <= 2 ^ 27
theorem NP:OpR X (binaryOp .LShift) (rI MF fun i j=>.int (i * 2 ^ j.toNat)):=MM fun _ _ _ _ _ _ _ hc q=>lshift_int hc.1 hc.2 q
theorem FN {j:Int} (hc:MF i j) (h:Q (.int (i * 2 ^ j.toNat)) H):rI MF (fun i j=>.int (i * 2 ^ j.toNat)) (.int i) (.int j) H Q:=⟨i,j,rfl,rfl,hc,h⟩
def rJoin (K:W.Frag):V->List V->Hp->VK->Prop:=fun x vs H Q=>∃ z p ys,x = .str z/\vs = [.ref p]/\SqL K H p (ys.map V.str)/\(ys.map (·.length)).sum + ys.length * z.length <= 16777216/\Q (.str (Txt.join z ys)) H
theorem strsAre_of:∀ {ys:List Str} {us:List Value},Vals (ys.map V.str) us->StrsAre us ys
 | [],_,r=>by rw [List.map_nil] at r;cases r;exact .nil
 | y :: ys,_,r=>by
  rw [List.map_cons] at r
  cases r with
  | cons r1 r2 =>
   obtain ⟨t,rfl⟩:=r1;exact .cons y t (strsAre_of r2)
theorem Hy:O9 X "str.join" (rJoin X.K):=by
 intro pins s σ H x vs v us Q I rx rv h;obtain ⟨z,p,ys,rfl,rfl,hp,hz,q⟩:=h;obtain ⟨t,rfl⟩:=rx;obtain ⟨u,rfl,ru⟩:=rv.one
 cases (show u = Value.ref p from ru)
 obtain ⟨its,r,pl,_⟩:=I.list hp;exact join_list pl.isList (by simpa using strsAre_of r) hz fun t' k=>⟨.str (Txt.join z ys),H,I.tok _,⟨_,rfl⟩,q⟩
theorem Iv (ho : BE X o to) (ha : BA X (e :: es) t) (gK : attributeBase o "join" X.env (eval o X.env) = eval o X.env := by rfl)
    (ug:((backTo cu (starEach (e :: es) X.env)).all (fun x=>!x.1) && (backToKw cu (keywordEach [] X.env)).all (fun x=>x.1.isSome)
     && decide ((e :: es).length + ([]:List Keyword).length + (if ([]:List Keyword).isEmpty then 0 else 1) < 30)) = true:=by rfl)
    (gJ:(apos.endLine == cu.line) = true:=by rfl) (h1:isStar e = false:=by rfl) (h2:noStar es = true:=by rfl) :
    BE X (.Call (.Attribute o "join" apos) (e :: es) [] cu) (MH X.K "str" (rJoin X.K) to t) :=
 ⟨zh F.plainAttrs_str F.slot_str_join F.type_str_join Hy ho.h ha.h gK ug gJ (aG h1) (bL h2)⟩
end
end L2
namespace L2
open PySem PySem.Spec PyProof.Rows
open PySem.SeqAt
open PySem.AutoSeq1 (wpAny_loadPart')
open PySem.MeetsSeq PySem.MeetsSeq2 PySem.MeetsSeq3
end L2
namespace L2
open PySem PySem.Spec PyProof.Rows
variable {K:W.Frag} {σ:St} {H:Hp} {Q:VK} {ix:List Nat} {te to:TE} {xs:List V} {X:Cx} {n k:Nat} {y:Str} {pos:Pos} {tt:TT}
section
theorem AN {a : Addr} (W : Nat -> List V -> Hp -> Prop) (hz : xs.length <= sizeLine) (h0 : W 0 [] H) (hl : ∀ i ys H', W i ys H' -> SqL K H' a xs /\ ys.length = i)
    (hE:∀ i v ys H',xs[i]? = some v->W i ys H'->te (some v :: pick ix σ) H' fun y H5=>W (i + 1) (ys ++ [y]) H5)
    (hQ:∀ ys p H' H1,W xs.length ys H'->H' p = none->Same H' H1->H1 p = some (.lst ys)->Q (.ref p) H1):MD (II K a) ix σ zZ te Q H:=by
 refine ⟨fun i m ys H2=>m = xs.length - i/\i <= xs.length/\W i ys H2,⟨xs.length,by simp,Nat.zero_le _,h0⟩,?_⟩
 rintro i m ys H2 ⟨rfl,hi,w⟩;obtain ⟨q,e⟩:=hl i ys H2 w
 by_cases eR:i < xs.length
 ·refine .inr ⟨⟨xs,_,q,List.getElem?_eq_getElem eR⟩,by omega,fun x H3 y=>?_⟩
  obtain ⟨rfl,y⟩:=y;show te _ _ _;rw [show (fun y H5=>∃ m',m' < xs.length - i/\m' = xs.length - (i + 1)/\i + 1 <= xs.length/\W (i + 1) (ys ++ [y]) H5) = fun y H5=>W (i + 1) (ys ++ [y]) H5 from ?_]
  ·exact hE i x ys _ (y xs q) w
  ·funext y H5
   apply propext;exact ⟨fun ⟨m',_,_,_,h⟩=>h,fun h=>⟨xs.length - (i + 1),by omega,rfl,eR,h⟩⟩
 ·have:i = xs.length:=by omega
  subst this;exact .inl ⟨⟨xs,q,Nat.le_refl _⟩,fun D hD=>hQ ys D H2 _ w hD (aE hD) ak⟩
theorem join_one:∀ cs:List Nat,Txt.join (Str.ofString "") (cs.map fun c=>(⟨#[c]⟩:Str)) = ⟨cs.toArray⟩:=by
 intro cs;refine (StrLaws.glued_eq_join _ _).trans ?_
 induction cs with
 | nil=>rfl
 | cons c cs ih =>
  cases cs with
  | nil=>rfl
  | cons d ds =>
   rw [List.map_cons] at ih;rw [List.map_cons,List.map_cons];show (⟨#[c]⟩ ++ Str.ofString "" ++ Str.join (Str.ofString "") ((⟨#[d]⟩:Str) :: ds.map fun d=>(⟨#[d]⟩:Str)):Str) = _
   rw [ih];have e:∀ x y:Str,x.cps.toList = y.cps.toList->x = y:=fun x y h=>by
    cases x;cases y
    congr 1
    exact Array.ext' h
   refine e _ _ ?_;rw [app_list,app_list];simp
   rfl
theorem Fw (cs:List Nat):((cs.map fun c=>(⟨#[c]⟩:Str)).map (·.length)).sum = cs.length:=by
 induction cs with
 | nil=>rfl
 | cons c cs ih =>
  rw [List.map_cons,List.map_cons,List.sum_cons,ih,List.length_cons];show 1 + cs.length = _;omega
end
section
def Dd (K:W.Frag):List V->Hp->VK->Prop:=fun xs H Q=>∃ p ys,xs = [.ref p]/\((SqL K H p ys/\∀ l,H l = none->Q (.ref l) (upd H l (.tup ys))) \/ (SqT K H p ys/\Q (.ref p) H))
theorem Iq:bq X (.type "tuple") (Dd X.K):=qN
theorem Am {p:Addr} {ys:List V} (e:SqL K H p ys) (h:∀ l H1,H l = none->Same H H1->H1 l = some (.tup ys)->Q (.ref l) H1):Dd K [.ref p] H Q:=⟨p,ys,rfl,.inl ⟨e,fun l hl=>h l _ hl (aE hl) ak⟩⟩
theorem y7 (len:Nat) (d:Nat) (h:n <= len):HT.sIx len d (some (n:Int)) = n:=by
 unfold HT.sIx;simp only;rw [if_neg (by omega)];omega
theorem Il (xs:List V) (h:n <= xs.length):pF xs none (some (n:Int)) = xs.take n:=by
 unfold pF;rw [y7 _ _ h,show HT.sIx xs.length 0 none = 0 from rfl,List.drop_zero,Nat.sub_zero]
theorem Reps.rep {H:Hp} {ds:List L2.D} {vs:List V} (r:Reps H ds vs):∀ k:Nat,Reps H (List.replicate k ds).flatten (List.replicate k vs).flatten
 | 0=>Reps.nil'
 | k + 1=>by
  rw [List.replicate_succ,List.flatten_cons,List.replicate_succ,List.flatten_cons];exact r.append (Reps.rep r k)
end
section
variable {scope:Scope} {x:Str} {fv:List Str}
theorem Dp {iy : Nat} {py Ab : Pos} {elt iter : Expr} {ifs : List Expr} {px : Pos} {wi : TI} {osc : Scope} (hc : X.calm = true) (S₀ : LcScope scope x fv osc) (wm : ix.map (fun i => X.N[i]?) = fv.map some) (hi : PI X (.Name x px) iter wi)
    (ht:∀ (C:Addr) (s₀:Shared) (H₀:Hp) (ex:List Addr),Bv (X.comp scope (x :: fv) C s₀ H₀ ex) ifs tt)
    (he:∀ (C:Addr) (s₀:Shared) (H₀:Hp) (ex:List Addr),PE (X.comp scope (x :: fv) C s₀ H₀ ex) elt te)
    (hN:X.N.Nodup) (QY:X.N[iy]? = some y) (QX:Loc X.env.scope y) (Q4:swapsWith (.ListComp elt [⟨.Name x px,iter,ifs,0⟩] scope pos) (some (.Name y py)) Ab.line X.env = pure true) (hf:X.fn y = true \/ X.env.scope.names.lookup y = some .local:=by first | exact .inl rfl | exact .inr rfl | assumption)
    (oI:X.env.scope = osc:=by rfl) (hs:∀ x,foldedSetIterable iter X.env x = pure x:=by intro _;rfl):PS X (.Assign [.Name y py] (.ListComp elt [⟨.Name x px,iter,ifs,0⟩] scope pos) Ab) (B9 (Ng ix wi tt te) (jL iy)):=by
 have S:LcScope scope x fv X.env.scope:=oI ▸ S₀;intro pins s σ H D0 I h;rw [exec_Assign_Name_used y py _ Ab Q4];refine wpAny_bind (wpAny_standAt (wpAny_bind ?_));unfold evalThenUse;refine wpAny_bind ?_;refine wpAny_comprehension_free (use:=some (assign (.Name y py) X.env)) (cl:=gh scope X.env) rfl hs (gg (S.cells I.ok)) S.kind S.names ?_;refine bw (hi pins s σ H _ I h) fun v s1 h1=>bw h1 fun N1 s2 h2=>?_
 obtain ⟨it,fp,tn,J,H2,e,I2,T,Fd,f2,W,⟨m0,w0⟩,turn⟩:=h2;subst e;have fl:∀ b ∈ fp,b < s2.heap.objs.size:=fun b hb=>by obtain ⟨o,e,_⟩:=T.obj _ _ Fd b hb;exact Heap.lt_size e
 refine wpAny_newObj_type (wpAny_newFunctionEnv S.nocell (by intro y hy;simp at hy) (fun h₁ cQ cb=>?_) S.kind);dsimp only at cQ cb ⊢;generalize uS:s2.heap.push { cls:=.type "list",dict:=none,data:=.seq ([]:List Value).toArray } = A3 at cQ cb ⊢;have TV:A3.objs.size = s2.heap.objs.size + 1:=by rw [<- uS,Heap.size_push]
 generalize TX:A3.objs.size = C at cQ cb ⊢;generalize zx:s2.heap.objs.size = D at *;have Bf:D ≠ C:=by omega
 have hD:s2.heap.objs.size <= D:=by omega
 have hC:s2.heap.objs.size <= C:=by omega
 have Ji:∀ b:Nat,b < s2.heap.objs.size->b ≠ C:=fun b hb=>by omega
 have Jh:∀ b:Nat,b < s2.heap.objs.size->b ≠ D:=fun b hb=>by omega
 have old:∀ b o,s2.heap.get? b = some o->h₁.get? b = some o:=fun b o e=>cb.extBut b o (Ji b (Heap.lt_size e)) (Heap.get?_push_of_some _ (uS ▸ Heap.get?_push_of_some _ e))
 have kL:h₁.get? D = some (lobj [] 0):=cb.extBut _ _ Bf (Heap.get?_push_of_some _ (uS ▸ zx ▸ Heap.get?_push_size _ rfl));have Aa:tn 0 h₁:=T.keep _ _ _ Fd fun b _ o e=>old b o e
 have I3:Inv (X.comp scope (x :: fv) C s2 H2 fp) [(D,lobj [] 0)] (none :: pick ix σ) H2 { s2 with heap:=h₁,toks:=s2.toks + ([]:List (Str × Value)).length }:=pG S wm I2 hD Bf hC f2 (fun b hb=>zx.symm ▸ fl b hb) cQ old kL
 have En:∀ b ∈ fp,b ≠ D:=fun b hb=>Jh b (zx.symm ▸ fl b hb)
 have jZ:=S.cells I2.ok;have jQ:∀ {H':Hp} {its:List Value} {n:Nat},(∀ b ∈ fp,H' b = none)->∀ b ∈ fp,FpOk (X.comp scope (x :: fv) C s2 H2 fp) [(D,lobj its n)] H' b:=fun {H' its n} hn b hb=>by
  obtain ⟨_,g1,g2,g3,g4,g5⟩:=f2 b hb;refine ⟨hn b hb,(Ji b (zx.symm ▸ fl b hb)),fun z=>?_,.inl hb,fun y c h1=>g4 y c (aQ jZ h1),fun p hp=>?_⟩
  ·rcases List.mem_cons.mp (I2.stkSub b z) with z | z
   ·exact g1 z
   ·exact g2 z
  ·have qc:p = (D,lobj its n):=by simpa [Cx.comp] using hp
   rw [qc];exact (En b hb).symm
 have loop : ∀ s3 : Shared, s3 = { s2 with heap := h₁, toks := s2.toks + ([] : List (Str × Value)).length } ->
     codeAny (model X.prog X.w) X.A (.compLoop (.ListComp elt [⟨.Name x px,iter,ifs,0⟩] scope pos) 0 (.ref it) (.ref D) (compEnvC scope (gh scope X.env) C X.env))
      (compPost (model X.prog X.w) X.A X.xe (some (assign (.Name y py) X.env)) (fun _ s6=>wpAny (model X.prog X.w) X.A (pure ()) (fun _ s7=>wpAny (model X.prog X.w) X.A (pure Flow.next) (SP X pins D0) X.xe s7) X.xe s6) (.ref D) C) s3:=by
  rintro s3 rfl;refine cf (fun n s'=>∃ i ys its k H' o',Inv (X.comp scope (x :: fv) C s2 H2 fp) [(D,lobj its k)] (o' :: pick ix σ) H' s'/\tn i s'.heap/\(∀ b ∈ fp,H' b = none)/\Vals ys its/\ys.length <= sizeLine/\W i n ys H') ?_ m0
   ⟨0,[],[],0,H2,none,I3,Aa,fun b hb=>(f2 b hb).1,.nil,Nat.zero_le _,w0⟩
  rintro n s4 ⟨i,ys,its,k,H4,o4,I4,IP,JC,y8,Jq,w4⟩
  rcases turn i n ys H4 w4 with ⟨stop,q⟩ | ⟨go,eR,step⟩
  ·refine bw (T.done (X.comp scope (x :: fv) C s2 H2 fp) rfl rfl rfl hc i _ s4 _ H4 _ I4 (jQ JC) IP stop) fun r s5 ⟨hr,I5⟩=>?_
   subst hr;obtain ⟨m5,Oj,_⟩:=id I5.loc;obtain ⟨I6,nD⟩:=wM I2 hD hC f2 I5 (h':=s5.heap) ⟨rfl,fun _ _=>rfl⟩ y8 Jq;have fC:FpOk X pins (upd H4 D (.lst ys)) C:=I2.fpOk hC (by rw [aj (Ne.symm Bf)];exact I5.free);refine wpAny_assign_Name (qX I6 hN QY QX (v:=.ref D) rfl (fun s7 I7 ⟨aa,Vj,ha⟩=>?_) hf);have W7:C ≠ aa:=by
    rcases ha with rfl | ha
    ·exact fC.2.1
    ·exact (fC.2.2.2.2.1 _ _ ha).symm
   obtain ⟨on,es,ep,ho,rn⟩:=Oj;refine ⟨m5,⟨on,es,ep,(Vj.2 C W7).trans ho,rn⟩,fun h8 Wi=>?_⟩
   have I8:Inv X pins (σ.set iy (some (.ref D))) (upd H4 D (.lst ys)) { s7 with heap:=h8 }:=I7.turned (t':=s7.toks) (it:=C) (fun b o hb e=>(Wi.2 b hb).trans e) fC.1 fC.2.1 fC.2.2.2.1 fC.2.2.2.2.1 fC.2.2.2.2.2
   exact wpAny_pure (wpAny_pure ⟨_,_,I8,q D nD⟩)
  ·refine bw (T.item (X.comp scope (x :: fv) C s2 H2 fp) rfl rfl rfl hc i _ s4 _ H4 _ I4 (jQ JC) IP go) fun r s5 ⟨u,hr,h5⟩=>?_
   subst hr;refine bw h5 fun _ s6 ⟨xv,H6,I6,r6,y6,vi,OM⟩=>?_
   have Pe:=I6.pinned (jQ OM) (T.obj _ _ vi);refine wpAny_assign_Name (iC (i:=0) Pe S.nd rfl (.inl (lookup_relabel_local S.tgt)) r6 (fun s7 I7=>?_) (.inr (lookup_relabel_local S.tgt)))
   refine bw (ht C s2 H2 fp _ s7 _ H6 _ I7 (step xv H6 y6)) fun b s8 ⟨H8,I8,q8⟩=>?_
   have fJ:∀ {H9:Hp} {σ9:St} {s9:Shared} (I9:Inv (X.comp scope (x :: fv) C s2 H2 fp) ([(D,lobj its k)] ++ cp fp s6.heap) σ9 H9 s9),(∀ b ∈ fp,∀ o,s6.heap.get? b = some o->s9.heap.get? b = some o/\H9 b = none):=fun {H9 σ9 s9} I9 b hb o e =>
    ⟨(I9.pin (b,o) (List.mem_append_right _ (List.mem_append_right _ (bZ hb e)))).1,(I9.pin (b,o) (List.mem_append_right _ (List.mem_append_right _ (bZ hb e)))).2.1⟩
   cases b with
   | false =>
    rw [if_neg Bool.false_ne_true] at q8 ⊢;obtain ⟨m',hm,w8⟩:=q8;refine ⟨m',hm,i + 1,ys,its,k,H8,some xv,I8.unpinned,T.keep _ _ _ vi fun b hb o e=>(fJ I8 b hb o e).1,fun b hb=>?_,y8,Jq,w8⟩;obtain ⟨o,e,_⟩:=T.obj _ _ vi b hb;exact (fJ I8 b hb o e).2
   | true =>
    rw [if_pos rfl] at q8 ⊢;refine bw (he C s2 H2 fp _ s8 _ H8 _ I8 q8) fun y s9 ⟨yv,H9,I9,r9,q9⟩=>?_
    obtain ⟨m',hm,w9⟩:=q9;obtain ⟨eD,nD,Bz,Lr,_⟩:=I9.pin (D,lobj its k) (by simp [Cx.comp]);have hlen:=y8.length;refine wpAny_list_append_plain (items:=its.toArray) ⟨k,eD⟩ (fun JB Ee wg=>?_) (by rw [List.size_toArray];omega)
    obtain ⟨k',OR⟩:=Ee;have J9:Inv (X.comp scope (x :: fv) C s2 H2 fp) (cp fp s6.heap) (some xv :: pick ix σ) H9 s9:=I9.pins_of fun p hp=>I9.pin p (List.mem_append_right _ (List.mem_append_right _ hp))
    have Pc:Inv (X.comp scope (x :: fv) C s2 H2 fp) (cp fp s6.heap) (some xv :: pick ix σ) H9 { s9 with heap:=JB } :=
     J9.turned (t':=s9.toks) (it:=D) (fun b o hb e=>(wg.2 b hb).trans e) nD Bz (.inr hD) (fun y c h1 z=>by
      obtain ⟨_,o,ho,_⟩:=I2.cell y c (aQ jZ h1);exact Jh c (Heap.lt_size ho) z) (fun p hp z=>by
      obtain ⟨hb,_⟩:=jo (show p ∈ cp fp s6.heap by simpa [Cx.comp] using hp);exact En p.1 hb z)
    have Ew:JB.get? D = some (lobj (its ++ [y]) k'):=by
     rw [OR];simp [lobj]
    refine ⟨m',hm,i + 1,ys ++ [yv],its ++ [y],k',H9,some xv,Pc.pins_of fun p hp=>?_,T.keep _ _ _ vi fun b hb o e=>(wg.2 b (En b hb)).trans (fJ I9 b hb o e).1,fun b hb=>?_,y8.append (.cons r9 .nil),?_,w9⟩
    ·have qc:p = (D,lobj (its ++ [y]) k'):=by simpa using hp
     subst qc;exact ⟨Ew,nD,Bz,Lr,fun v z=>by have z':Data.seq _ _ = Data.cell v:=z;cases z'⟩
    ·obtain ⟨o,e,_⟩:=T.obj _ _ vi b hb;exact (fJ I9 b hb o e).2
    ·rw [List.length_append,List.length_singleton];omega
 exact codeAny_compStart_list (loop _ rfl) (T.self _ 0 _ _ _ Aa (loop _ rfl))
variable {iy:Nat} {py px Ab:Pos} {elt iter:Expr} {ifs:List Expr} {osc:Scope} {wi:TI}
theorem wU (hc : X.calm = true) (S₀ : LcScope scope x fv osc) (wm : ix.map (fun i => X.N[i]?) = fv.map some) (hi : BI X (.Name x px) iter wi)
    (ht:∀ (C:Addr) (s₀:Shared) (H₀:Hp) (ex:List Addr),BF (X.comp scope (x :: fv) C s₀ H₀ ex) ifs tt) (he:∀ (C:Addr) (s₀:Shared) (H₀:Hp) (ex:List Addr),BE (X.comp scope (x :: fv) C s₀ H₀ ex) elt te)
    (hN:X.N.Nodup) (QY:X.N[iy]? = some y) (QX:Loc X.env.scope y) (Q4:swapsWith (.ListComp elt [⟨.Name x px,iter,ifs,0⟩] scope pos) (some (.Name y py)) Ab.line X.env = pure true:=by rfl) (hf:X.fn y = true \/ X.env.scope.names.lookup y = some .local:=by first | exact .inl rfl | exact .inr rfl | assumption)
    (oI:X.env.scope = osc:=by rfl) (hs:∀ x,foldedSetIterable iter X.env x = pure x:=by intro _;rfl):BS X (.Assign [.Name y py] (.ListComp elt [⟨.Name x px,iter,ifs,0⟩] scope pos) Ab) (B9 (Ng ix wi tt te) (jL iy)) :=
 ⟨Dp hc S₀ wm hi.h (fun C s₀ H₀ ex=>(ht C s₀ H₀ ex).h) (fun C s₀ H₀ ex=>(he C s₀ H₀ ex).h) hN QY QX Q4 hf oI hs⟩
end
section
variable {e:Expr}
theorem Inv.turnedT {pins : List (Addr × Obj)} {s : Shared} {h' : Heap} {ch : List Addr} {n : Addr} {vs : List V} {t' : Nat} (I : Inv X pins σ H s) (k : ∀ b o, b ∉ ch -> s.heap.get? b = some o -> h'.get? b = some o) (hf : ∀ b ∈ ch, FpOk X pins H b)
    (hn:s.heap.objs.size <= n) (Z8:n ∉ ch) (new:ObjOk X.prog X.w (upd H n (.tup vs)) h' n (.tup vs)):Inv X pins σ (upd H n (.tup vs)) { s with heap:=h',toks:=t' }:=by
 have DR:∀ b u,H b = some u->b ∉ ch:=fun b u e z=>by rw [(hf b z).1] at e;cases e
 have Hn:H n = none:=I.hok.fresh hn;have nn:∀ b u,H b = some u->b ≠ n:=fun b u e z=>by rw [z,Hn] at e;cases e
 have lt:∀ b o,s.heap.get? b = some o->b ≠ n:=fun b o e=>Nat.ne_of_lt (Nat.lt_of_lt_of_le (Heap.lt_size e) hn)
 refine I.step (g':=s.gens) (d':=s.drawn) (ch:=ch) (fun b hb=>?_) (fun b o _ _ hc e _=>k b o hc e) (fun b o _ _ hc e _=>⟨o.slots,k b o hc e⟩) (fun b o _ e q=>by rw [aj (lt b o e)];exact q)
  (fun b o hc e=>⟨o,k b o hc e⟩) (fun b xs e=>by rw [aj (nn b _ e)];exact e) (fun b o u e=>by rw [aj (nn b _ e)];exact e) (fun b ps e=>⟨#[],by rw [aj (nn b _ e),e];simp⟩) (fun m hm=>?_) (fun b u e=>?_) I.bare
 ·obtain ⟨_,f1,_,f3,f4,f5⟩:=hf b hb;exact ⟨f3,f1,f4,f5⟩
 ·obtain ⟨o,es,ep,ho,r⟩:=hm;exact ⟨o,es,ep,k _ o (fun z=>(hf _ z).2.1 rfl) ho,r⟩
 ·by_cases hb:b = n
  ·subst hb;rw [ak] at e
   cases e
   exact new
  ·rw [aj hb] at e;refine (I.hok b u e).stay (fun c v hc q=>k c v ?_ q) (fun c q=>by rw [aj (nn c _ q)];exact q) fun c xs q=>by rw [aj (nn c _ q)];exact q
   rcases hc with z | z
   ·rw [z];exact DR b u e
   ·exact DR c _ z
end
section
variable {o i:Expr} {ti:TE}
instance y3 {T:String} {r:V->List V->Hp->VK->Prop}:aV (JW K T r to σ H Q) (to σ H fun x H1=>JK K T x H1/\r x [] H1 Q):=⟨id⟩
end
section
variable {o e:Expr} {es:List Expr} {t:TA} {apos cu p2:Pos}
def yh:V->List V->Hp->VK->Prop:=fun x vs H Q=>∃ z i,x = .str z/\vs = [.int i]/\PadOk i = true/\Q (.str (Txt.zfill z i)) H
theorem DT:O9 X "str.zfill" yh:=by
 intro pins s σ H x vs v us Q I rx rv h;obtain ⟨z,i,rfl,rfl,hi,q⟩:=h;obtain ⟨t,rfl⟩:=rx;obtain ⟨u,rfl,t',rfl⟩:=rv.one;exact SC.zfill hi fun t' k=>⟨.str (Txt.zfill z i),H,I.tok _,⟨_,rfl⟩,q⟩
theorem C0 {z:Str} {i:Int} (hi:PadOk i = true) (h:Q (.str (Txt.zfill z i)) H):yh (.str z) [.int i] H Q:=⟨z,i,rfl,rfl,hi,h⟩
theorem EM (ho : BE X o to) (ha : BA X (e :: es) t) (gK : attributeBase o "zfill" X.env (eval o X.env) = eval o X.env := by rfl)
    (ug:((backTo cu (starEach (e :: es) X.env)).all (fun x=>!x.1) && (backToKw cu (keywordEach [] X.env)).all (fun x=>x.1.isSome)
     && decide ((e :: es).length + ([]:List Keyword).length + (if ([]:List Keyword).isEmpty then 0 else 1) < 30)) = true:=by rfl)
    (gJ:(apos.endLine == cu.line) = true:=by rfl) (h1:isStar e = false:=by rfl) (h2:noStar es = true:=by rfl) :
    BE X (.Call (.Attribute o "zfill" apos) (e :: es) [] cu) (MH X.K "str" yh to t) :=
 ⟨zh F.plainAttrs_str F.slot_str_zfill F.type_str_zfill DT ho.h ha.h gK ug gJ (aG h1) (bL h2)⟩
end
def val:List Nat->Int
 | []=>0
 | d :: ds=>d + 16 * val ds
def okF (ds:List Nat):Prop:=∀ d ∈ ds,d < 16
theorem okF.take {ds:List Nat} (h:okF ds) (n:Nat):okF (ds.take n):=fun d hd=>h d (List.mem_of_mem_take hd)
theorem okF.drop {ds:List Nat} (h:okF ds) (n:Nat):okF (ds.drop n):=fun d hd=>h d (List.mem_of_mem_drop hd)
theorem kj {x:Str} (h:x.cps.toList = y.cps.toList):x = y:=by
 cases x;cases y
 congr 1
 exact Array.ext' h
def N4 (c:Nat):Bool:=decide (48 <= c/\c <= 57)
def R6 (z:Str):Bool:=decide (z ≠ Str.ofString "") && z.cps.toList.all N4
def mY (z:Str):Nat:=NumText.digitsVal z.cps.toList
def Fc (z:Str):Option Int:=if z.length <= 6/\R6 z = true/\uC z.cps.toList 0 ≠ some 48/\mY z % 8 = 0 then some (mY z:Int) else none
def jC (n:Nat):Nat->List Nat
 | 0=>[]
 | i + 1=>(48 + n / 10 ^ i % 10) :: jC n i
theorem ky (n k:Nat):(jC n k).length = k:=by
 induction k with
 | zero=>rfl
 | succ k ih=>simp only [jC,List.length_cons,ih]
theorem vG (n k:Nat):NumText.AllDigits (jC n k):=by
 induction k with
 | zero=>intro c hc;cases hc
 | succ k ih =>
  intro c hc
  rcases List.mem_cons.mp hc with rfl | h
  ·omega
  ·exact ih c h
theorem rV (n:Nat):∀ (k a:Nat),(jC n k).foldl (fun acc c=>acc * 10 + (c - 48)) a = a * 10 ^ k + n % 10 ^ k
 | 0,a=>by simp [jC,Nat.mod_one]
 | k + 1,a=>by
  simp only [jC,List.foldl_cons];rw [rV n k,Nat.add_sub_cancel_left];have h1:=Nat.div_add_mod n (10 ^ k);have h2:=Nat.div_add_mod (n / 10 ^ k) 10;have h3:n % 10 ^ (k + 1) = n % 10 ^ k + 10 ^ k * (n / 10 ^ k % 10):=by
   rw [Nat.pow_succ,Nat.mod_mul]
  rw [h3,Nat.pow_succ,Nat.add_mul,Nat.mul_assoc,Nat.mul_comm 10 (10 ^ k),Nat.mul_comm (n / 10 ^ k % 10) (10 ^ k)];omega
theorem DH (h:n < 10 ^ k):NumText.digitsVal (jC n k) = n:=by
 unfold NumText.digitsVal;rw [rV,Nat.mod_eq_of_lt h];omega
theorem Ez:∀ cs:List Nat,cs = List.replicate (cs.length - (cs.dropWhile (· == 48)).length) 48 ++ cs.dropWhile (· == 48)
 | []=>rfl
 | c :: cs=>by
  by_cases h:c = 48
  ·subst h;have ih:=Ez cs;have hl:(cs.dropWhile (· == 48)).length <= cs.length:=(List.dropWhile_sublist _).length_le;rw [List.dropWhile_cons_of_pos (by simp),List.length_cons,show cs.length + 1 - (cs.dropWhile (· == 48)).length = (cs.length - (cs.dropWhile (· == 48)).length) + 1 by omega,List.replicate_succ,List.cons_append,<- ih]
  ·rw [List.dropWhile_cons_of_neg (by simpa using h)];simp
def vF (n k:Nat):Str:=⟨(jC n k).toArray⟩
theorem DG (n k:Nat):(vF n k).length = k:=by rw [len_list];show (jC n k).length = k;exact ky n k
theorem DN (n:Nat):(Str.ofString (toString (n:Int))).cps.toList = (Nat.toDigits 10 n).map Char.toNat:=W.KIN.signs_num n
theorem vT:∀ {cs:List Nat},NumText.AllDigits cs->(cs.map Char.ofNat).map Char.toNat = cs
 | [],_=>rfl
 | c :: cs,h=>by
  have hc:=h c List.mem_cons_self;have:(Char.ofNat c).toNat = c:=by
   obtain ⟨d,rfl⟩:∃ d,c = 48 + d:=⟨c - 48,by omega⟩;have hd:d < 10:=by omega
   match d,hd with
   | 0,_=>rfl
   | 1,_=>rfl
   | 2,_=>rfl
   | 3,_=>rfl
   | 4,_=>rfl
   | 5,_=>rfl
   | 6,_=>rfl
   | 7,_=>rfl
   | 8,_=>rfl
   | 9,_=>rfl
  rw [List.map_cons,List.map_cons,this,vT fun x hx=>h x (List.mem_cons_of_mem _ hx)]
theorem tR (h:n < 10 ^ k) (hk:1 <= k):jC n k = List.replicate (k - (Str.ofString (toString (n:Int))).length) 48 ++ (Str.ofString (toString (n:Int))).cps.toList:=by
 have hd:=vG n k;have ha:=NumText.toDigits_all (jC n k) hd;rw [DH h] at ha;have e:=Ez (jC n k);rw [ky] at e;rw [len_list,DN,ha]
 cases hc:(jC n k).dropWhile (· == 48) with
 | nil =>
  rw [hc] at e;simp only [List.length_nil,Nat.sub_zero,List.append_nil] at e;rw [e];obtain ⟨m,rfl⟩:∃ m,k = m + 1:=⟨k - 1,by omega⟩
  show List.replicate (m + 1) 48 = List.replicate (m + 1 - 1) 48 ++ [48];rw [Nat.add_sub_cancel,List.replicate_succ']
 | cons c r =>
  rw [hc] at e;have OD:NumText.AllDigits (c :: r):=fun x hx=>hd x (by rw [e];exact List.mem_append_right _ hx)
  simp only;rw [vT OD];exact e
theorem zQ (h:n < 10 ^ k) (hk:1 <= k):Txt.zfill (Str.ofString (toString (n:Int))) (k:Int) = vF n k:=by
 have hp:=tR h hk;have hl:=congrArg List.length hp;rw [ky,List.length_append,List.length_replicate,<- len_list] at hl;refine kj ?_;show _ = jC n k;rw [hp];unfold Txt.zfill
 split
 ·rename_i hi;rw [show k - (Str.ofString (toString (n:Int))).length = 0 by omega]
  rfl
 ·have OA:NumText.AllDigits (Str.ofString (toString (n:Int))).cps.toList:=fun c hc=>vG n k c (by rw [hp];exact List.mem_append_right _ hc)
  have hz:zfilled (Str.ofString (toString (n:Int))) ((k:Int).toNat - (Str.ofString (toString (n:Int))).length) = Builtin.Str.padded (Str.ofString (toString (n:Int))) ((k:Int).toNat - (Str.ofString (toString (n:Int))).length) 0 48:=by
   unfold zfilled
   split
   ·rename_i h0;have:=OA 43 (by rw [<- Array.getElem?_toList] at h0;exact List.mem_of_getElem? h0);omega
   ·rename_i h0;have:=OA 45 (by rw [<- Array.getElem?_toList] at h0;exact List.mem_of_getElem? h0);omega
   ·rfl
  rw [hz,Int.toNat_natCast];unfold Builtin.Str.padded;simp
theorem len_app (x y:Str):(x ++ y).length = x.length + y.length:=by rw [len_list,app_list,List.length_append,<- len_list,<- len_list]
theorem Ae {z:Str} {i j:Nat} (h1:i <= j) (h2:j <= z.length):(Txt.slice z (some (i:Int)) (some (j:Int))).cps.toList = (z.cps.toList.drop i).take (j - i):=by
 have e:=slice_closes (x:=z) (i:=(i:Int)) (j:=(j:Int)) ⟨by omega,by omega,by rw [<- len_list];omega⟩;rw [eq_of_beq e];show (z.cps.toList.drop (i:Int).toNat).take ((j:Int) - (i:Int)).toNat = _;rw [show ((j:Int) - (i:Int)).toNat = j - i by omega,show (i:Int).toNat = i by omega]
theorem xU (a b:Str) {j:Int} (hj:j = (a.length:Nat)):Txt.slice (a ++ b) none (some j) = a:=by
 subst hj;refine kj ?_;rw [CL (by omega) (by rw [len_app];omega),app_list];rw [show ((a.length:Nat):Int).toNat = a.length by omega,len_list a,List.take_left]
section
theorem wa:∀ {us:List Value} {ns:List Int},IntsAre us ns->Vals (ns.map V.int) us
 | _,_,.nil=>.nil
 | _,_,.cons n t h=>.cons ⟨_,rfl⟩ (wa h)
theorem Vals.len {us:List Value} (h:Vals xs us):us.length = xs.length:=by
 induction h with
 | nil=>rfl
 | cons _ _ ih=>simp only [List.length_cons,ih]
end
theorem xT (a b:Str) (hb:b.length = 1):Txt.slice (a ++ b) none (some (-1)) = a:=by
 rw [slice_to_neg (by decide),show max (0:Int) (((a ++ b).length:Int) + -1) = (a.length:Nat) by rw [len_app,hb];omega];exact xU a b rfl
section
theorem NY {a : Addr} (W : Nat -> List V -> Hp -> Prop) (hz : xs.length <= sizeLine) (h0 : W 0 [] H) (hl : ∀ i ys H', W i ys H' -> SqL K H' a xs /\ ys.length <= i)
    (hE:∀ i v ys H',xs[i]? = some v->W i ys H'->tt (some v :: pick ix σ) H' fun b H4=>if b = true then te (some v :: pick ix σ) H4 fun y H5=>W (i + 1) (ys ++ [y]) H5 else W (i + 1) ys H4)
    (hQ:∀ ys p H' H1,W xs.length ys H'->H' p = none->Same H' H1->H1 p = some (.lst ys)->Q (.ref p) H1):MD (II K a) ix σ tt te Q H:=by
 refine ⟨fun i m ys H2=>m = xs.length - i/\i <= xs.length/\W i ys H2,⟨xs.length,by simp,Nat.zero_le _,h0⟩,?_⟩
 rintro i m ys H2 ⟨rfl,hi,w⟩;obtain ⟨q,e⟩:=hl i ys H2 w
 by_cases eR:i < xs.length
 ·refine .inr ⟨⟨xs,_,q,List.getElem?_eq_getElem eR⟩,by omega,fun x H3 y=>?_⟩
  obtain ⟨rfl,y⟩:=y;have ex:∀ (zs:List V) (H5:Hp),(∃ m',m' < xs.length - i/\m' = xs.length - (i + 1)/\i + 1 <= xs.length/\W (i + 1) zs H5) = W (i + 1) zs H5:=fun zs H5 =>
   propext ⟨fun ⟨m',_,_,_,h⟩=>h,fun h=>⟨xs.length - (i + 1),by omega,rfl,eR,h⟩⟩
  simp only [ex];exact hE i x ys _ (y xs q) w
 ·have:i = xs.length:=by omega
  subst this;exact .inl ⟨⟨xs,q,Nat.le_refl _⟩,fun D hD=>hQ ys D H2 _ w hD (aE hD) ak⟩
theorem oC {p:Prop} [Decidable p] {T U:TS} {D:Ends} (R:St->Hp->Prop) (h2:∀ σ' H',R σ' H'->D.nx σ' H') (hp:p->∀ Jg:St->Hp->Prop,(∀ σ' H',R σ' H'->Jg σ' H')->T { nx:=Jg,rt:=D.rt,bk:=D.bk,ct:=D.ct } σ H) (hn:¬ p->∀ Jg:St->Hp->Prop,(∀ σ' H',R σ' H'->Jg σ' H')->U { nx:=Jg,rt:=D.rt,bk:=D.bk,ct:=D.ct } σ H):if p then T D σ H else U D σ H:=by
 by_cases h:p
 ·rw [if_pos h];exact hp h D.nx h2
 ·rw [if_neg h];exact hn h D.nx h2
end
end L2
namespace PySem
open PySem PySem.Spec PySem.AutoSeq1
end PySem
namespace L2
open PySem PySem.Spec PyProof.Rows
variable {xs:List V}
section
variable {X:Cx} {K:W.Frag} {σ:St} {H:Hp} {Q:VK} {o e:Expr} {es:List Expr} {to te:TE} {t:TA} {apos cu pos p2:Pos}
theorem Bs (ho : BE X o to) (ha : BA X (e :: es) t) (gK : attributeBase o "extend" X.env (eval o X.env) = eval o X.env := by rfl)
    (ug:((backTo cu (starEach (e :: es) X.env)).all (fun x=>!x.1) && (backToKw cu (keywordEach [] X.env)).all (fun x=>x.1.isSome)
     && decide ((e :: es).length + ([]:List Keyword).length + (if ([]:List Keyword).isEmpty then 0 else 1) < 30)) = true:=by rfl)
    (gJ:(apos.endLine == cu.line) = true:=by rfl) (h1:isStar e = false:=by rfl) (h2:noStar es = true:=by rfl) :
    BE X (.Call (.Attribute o "extend" apos) (e :: es) [] cu) (MH X.K "list" tq to t) :=
 ⟨zh F.plainAttrs_list F.slot_list_extend F.type_list_extend AH ho.h ha.h gK ug gJ (aG h1) (bL h2)⟩
theorem An {l b:Addr} {zs:List V} (h1:H l = some (.lst xs)) (h2:H b = some (.lst zs)) (h3:xs.length + zs.length <= sizeLine) (q:Q .non (upd H l (.lst (xs ++ zs)))):tq (.ref l) [.ref b] H Q:=⟨l,b,xs,zs,rfl,rfl,h1,h2,h3,q⟩
end
def jU (n:Nat):Str:=Str.ofString (toString (n:Int))
theorem Hh {n k:Nat} (h:n < 10 ^ k) (hk:1 <= k):(jU n).length <= k:=by
 have e:=congrArg List.length (tR h hk);rw [ky,List.length_append,List.length_replicate] at e;have:(Str.ofString (toString (n:Int))).cps.toList.length = (jU n).length:=(len_list _).symm;rw [this] at e;have e2:(Str.ofString (toString (n:Int))).length = (jU n).length:=rfl;omega
section
variable {K:W.Frag} {σ:St} {H:Hp} {Q:VK} {ix:List Nat} {te:TE} {tt:TT}
theorem Jk {a : Addr} (W : Nat -> List V -> Hp -> Prop) (hz : xs.length <= sizeLine) (h0 : W 0 [] H) (hl : ∀ i ys H', W i ys H' -> SqT K H' a xs /\ ys.length <= i)
    (hE:∀ i v ys H',xs[i]? = some v->W i ys H'->tt (some v :: pick ix σ) H' fun b H4=>if b = true then te (some v :: pick ix σ) H4 fun y H5=>W (i + 1) (ys ++ [y]) H5 else W (i + 1) ys H4)
    (hQ:∀ ys p H' H1,W xs.length ys H'->H' p = none->Same H' H1->H1 p = some (.lst ys)->Q (.ref p) H1):MD (IH K a) ix σ tt te Q H:=by
 refine ⟨fun i m ys H2=>m = xs.length - i/\i <= xs.length/\W i ys H2,⟨xs.length,by simp,Nat.zero_le _,h0⟩,?_⟩
 rintro i m ys H2 ⟨rfl,hi,w⟩;obtain ⟨q,e⟩:=hl i ys H2 w
 by_cases eR:i < xs.length
 ·refine .inr ⟨⟨xs,_,q,List.getElem?_eq_getElem eR⟩,by omega,fun x H3 y=>?_⟩
  obtain ⟨rfl,y⟩:=y;have ex:∀ (zs:List V) (H5:Hp),(∃ m',m' < xs.length - i/\m' = xs.length - (i + 1)/\i + 1 <= xs.length/\W (i + 1) zs H5) = W (i + 1) zs H5:=fun zs H5 =>
   propext ⟨fun ⟨m',_,_,_,h⟩=>h,fun h=>⟨xs.length - (i + 1),by omega,rfl,eR,h⟩⟩
  simp only [ex];exact hE i x ys _ (y xs q) w
 ·have:i = xs.length:=by omega
  subst this;exact .inl ⟨⟨xs,q,Nat.le_refl _⟩,fun D hD=>hQ ys D H2 _ w hD (aE hD) ak⟩
theorem NX {a : Addr} (W : Nat -> List V -> Hp -> Prop) (hz : xs.length <= sizeLine) (h0 : W 0 [] H) (hl : ∀ i ys H', W i ys H' -> SqT K H' a xs /\ ys.length = i)
    (hE:∀ i v ys H',xs[i]? = some v->W i ys H'->te (some v :: pick ix σ) H' fun y H5=>W (i + 1) (ys ++ [y]) H5)
    (hQ:∀ ys p H' H1,W xs.length ys H'->H' p = none->Same H' H1->H1 p = some (.lst ys)->Q (.ref p) H1):MD (IH K a) ix σ zZ te Q H :=
 Jk W hz h0 (fun i ys H' w=>⟨(hl i ys H' w).1,Nat.le_of_eq (hl i ys H' w).2⟩) (fun i v ys H' hv w=>by
  show (fun b H4=>if b = true then te (some v :: pick ix σ) H4 fun y H5=>W (i + 1) (ys ++ [y]) H5 else W (i + 1) ys H4) true H'
  exact hE i v ys H' hv w) hQ
end
end L2
namespace TS
open PySem PySem.W PyProof.Rows
variable {β:Type}
local macro_rules | `(term| type_of% $n:ident) => return Lean.mkIdent (Lean.mkPrivateNameCore `PySem.Builtin.List.W1All (`PySem.Builtin ++ n.getId))
local macro_rules | `(tactic| delta $n:ident) => if Lean.isPrivateName n.getId then Lean.Macro.throwUnsupported else `(tactic| delta $(Lean.mkIdent (Lean.mkPrivateNameCore `PySem.Builtin.List.W1All (`PySem.Builtin ++ n.getId))):ident)
abbrev Fq:=type_of% lt
abbrev BN:=type_of% elem
abbrev ki:=type_of% gallop
abbrev Nc:=type_of% mergeLo
abbrev Nd:=type_of% mergeHi
abbrev IK:=type_of% setMinGallop
structure uT (prog:Program) (w:World) (A:Around) (s:Shared) (κ:SortKind) (M:Keyed->Prop) (c:Keyed->Keyed->Bool):Prop where
 ask:∀ x y,M x->M y->∀ C:Bool->Shared->Prop,C (c x y) s->wpAny (model prog w) A (keyLt' κ x.1 y.1) C (fun _ _=>False) s
 tot:∀ x y,M x->M y->x ≠ y->c x y = false->c y x = true
 Ya:∀ x y,M x->M y->c x y = true->c y x = false
 trans:∀ x y z,M x->M y->M z->c x y = true->c y z = true->c x z = true
section
variable {prog:Program} {w:World} {A:Around} {s:Shared} {E:Value->Shared->Prop} {κ:SortKind} {M:Keyed->Prop} {c:Keyed->Keyed->Bool}
theorem uZ (L:uT prog w A s κ M c) {x y:Keyed} (hx:M x) (hy:M y) {st:SortSt} (hk:PyProof.Rows.kindOf st = κ) {Q:Option Bool->SortSt->Prop} (q:Q (some (c x y)) st):wpS (model prog w) A E s (Fq x y) Q st:=by
 unfold Fq
 delta lt
 refine wpS_bind (wpS_get ?_);refine wpS_bind (wpS_lift ?_);refine wpAny_attempt ?_;have:=L.ask x y hx hy (fun b s'=>s' = s/\wpS (model prog w) A E s (match (Except.ok b:Except Value Bool) with
  | Except.ok b=>pure (some b)
  | Except.error e=>do
   modify fun x=>SortSt.mk' (PyProof.Rows.kindOf x) (arrOf x) (pendingOf x) (gallopOf x) (some e)
   pure none) Q st) ⟨rfl,wpS_pure q⟩
 rw [<- hk] at this;exact wpAny_mono this (fun _ _ h=>h) fun _ _ h=>h.elim
theorem aM {arr:Array Keyed} {i:Nat} {p:Keyed} (h:arr[i]? = some p) {st:SortSt} {Q:Keyed->SortSt->Prop} (q:Q p st):wpS (model prog w) A E s (BN arr i) Q st:=by
 show wpS (model prog w) A E s (elem' arr i) Q st;rw [elem'_eq,h];exact wpS_pure q
abbrev E4 {β:Type} (D Y:β->SortSt->Prop):ForInStep β->SortSt->Prop
 | .done b,st=>D b st
 | .yield b,st=>Y b st
theorem cj {f : Nat -> β -> StateT SortSt Sem (ForInStep β)} {Q : β -> SortSt -> Prop} (I : Nat -> β -> SortSt -> Prop)
    (step:∀ x k b st,I k b st->wpS (model prog w) A E s (f x b) (E4 Q (fun b' aO=>∃ k',k' < k/\I k' b' aO)) st) :
    ∀ (l:List Nat) (k:Nat) (b:β) (st:SortSt),k < l.length->I k b st->wpS (model prog w) A E s (forIn l b f) Q st
 | [],k,b,st,h,_=>absurd h (Nat.not_lt_zero _)
 | x :: l,k,b,st,h,i=>by
  rw [List.forIn_cons];refine wpS_bind (wpS_mono (step x k b st i) fun r aO hr=>?_)
  cases r with
  | done b'=>exact wpS_pure hr
  | yield b' =>
   obtain ⟨k',h1,h2⟩:=hr;exact cj I step l k' b' aO (by rw [List.length_cons] at h;omega) h2
theorem nO {f : Nat -> β -> StateT SortSt Sem (ForInStep β)} {Q : β -> SortSt -> Prop} (I : Nat -> β -> SortSt -> Prop)
    (step:∀ x k b st,I k b st->wpS (model prog w) A E s (f x b) (E4 Q (fun b' aO=>∃ k',k' < k/\I k' b' aO)) st)
    (fin:∀ b st,I 0 b st->Q b st) :
    ∀ (l:List Nat) (k:Nat) (b:β) (st:SortSt),k <= l.length->I k b st->wpS (model prog w) A E s (forIn l b f) Q st
 | [],k,b,st,h,i=>by
  obtain rfl:k = 0:=Nat.le_zero.mp h;rw [List.forIn_nil];exact wpS_pure (fin b st i)
 | x :: l,k,b,st,h,i=>by
  rw [List.forIn_cons];refine wpS_bind (wpS_mono (step x k b st i) fun r aO hr=>?_)
  cases r with
  | done b'=>exact wpS_pure hr
  | yield b' =>
   obtain ⟨k',h1,h2⟩:=hr;exact nO I step fin l k' b' aO (by rw [List.length_cons] at h;omega) h2
theorem range_list {f:Nat->β->StateT SortSt Sem (ForInStep β)} {a n:Nat} {b:β}:(forIn [a:n] b f:StateT SortSt Sem β) = forIn (List.range' a (n - a)) b f:=by
 rw [Std.Legacy.Range.forIn_eq_forIn_range'];simp [Std.Legacy.Range.size]
end
end TS
namespace TS
open PySem PySem.W PyProof.Rows
local macro_rules | `(term| type_of% $n:ident) => return Lean.mkIdent (Lean.mkPrivateNameCore `PySem.Builtin.List.W1All (`PySem.Builtin ++ n.getId))
local macro_rules | `(tactic| delta $n:ident) => if Lean.isPrivateName n.getId then Lean.Macro.throwUnsupported else `(tactic| delta $(Lean.mkIdent (Lean.mkPrivateNameCore `PySem.Builtin.List.W1All (`PySem.Builtin ++ n.getId))):ident)
section
variable {prog:Program} {w:World} {A:Around} {s:Shared} {E:Value->Shared->Prop} {κ:SortKind} {M:Keyed->Prop} {c:Keyed->Keyed->Bool}
theorem gx (L : uT prog w A s κ M c) {left : Bool} {key x : Keyed} {arr : Array Keyed} {j : Nat} {b : Bool} {st : SortSt} (ng : M key) (hx : arr[j]? = some x) (mx : M x) (hb : b = if left then c x key else !(c key x)) (hk : PyProof.Rows.kindOf st = κ) {Q : Option Bool -> SortSt -> Prop} (q : Q (some b) st) :
    wpS (model prog w) A E s (BN arr j >>= fun x=>if left = true then Fq x key else Fq key x >>= fun r=>pure (Option.map (fun x=>!x) r)) Q st:=by
 refine wpS_bind (aM hx ?_)
 cases left with
 | true =>
  rw [if_pos rfl];refine uZ L mx ng hk ?_;rw [hb] at q;exact q
 | false =>
  rw [if_neg (by decide)];refine wpS_bind (uZ L ng mx hk (wpS_pure ?_));rw [hb] at q;exact q
theorem qW (L : uT prog w A s κ M c) {left : Bool} {key : Keyed} {arr : Array Keyed} {base n hint : Nat} {st : SortSt} {Q : Option Nat -> SortSt -> Prop} (p : Nat -> Bool)
    (ng:M key) (Ej:∀ i,i < n->∃ x,arr[base + i]? = some x/\M x/\p i = if left then c x key else !(c key x))
    (hh:hint < n) (mono:∀ i j,i <= j->j < n->p j = true->p i = true) (hk:PyProof.Rows.kindOf st = κ)
    (q:∀ k,k <= n->(∀ i,i < k->p i = true)->(∀ i,k <= i->i < n->p i = false)->Q (some k) st) :
    wpS (model prog w) A E s (ki left key arr base n hint) Q st:=by
 have zl:∀ i j,i <= j->j < n->p i = false->p j = false:=fun i j h1 h2 h3=>by
  cases e:p j with
  | false=>rfl
  | true=>rw [mono i j h1 h2 e] at h3;cases h3
 unfold ki
 delta gallop
 dsimp only;obtain ⟨x,hx,mx,px⟩:=Ej hint hh;refine wpS_bind (gx L ng hx mx px hk ?_);dsimp only
 cases e:p hint with
 | true =>
  rw [if_pos rfl];refine wpS_bind ?_;rw [range_list];refine wpS_mono (Q:=fun (b:Option (Option Nat) × Nat × Nat) aO=>st = aO/\b.1 = none/\b.2.1 < b.2.2/\hint + b.2.1 < n/\p (hint + b.2.1) = true/\(hint + b.2.2 < n->p (hint + b.2.2) = false))
   (cj (fun k (b:Option (Option Nat) × Nat × Nat) aO=>st = aO/\b.1 = none/\b.2.1 < b.2.2/\hint + b.2.1 < n/\p (hint + b.2.1) = true/\k = n - hint - 1 - b.2.1) ?_ _ (n - hint - 1) _ _ (by rw [List.length_range'];omega) ⟨rfl,rfl,by decide,by dsimp only;omega,e,by dsimp only;omega⟩) ?_
  ·rintro y k ⟨r,cB,qb⟩ aO ⟨rfl,rfl,h1,h2,h3,h4⟩;dsimp only at h1 h2 h3 h4 ⊢
   by_cases g:qb >= n - hint
   ·rw [if_pos g];exact wpS_pure ⟨rfl,rfl,h1,h2,h3,fun z=>by dsimp only at z;omega⟩
   ·rw [if_neg g];obtain ⟨x,hx,mx,px⟩:=Ej (hint + qb) (by omega);refine wpS_bind (gx L ng hx mx px hk ?_);dsimp only
    cases e2:p (hint + qb) with
    | false=>exact wpS_pure ⟨rfl,rfl,h1,h2,h3,fun _=>e2⟩
    | true=>exact wpS_pure ⟨_,show n - hint - 1 - qb < k by omega,rfl,rfl,by dsimp only;omega,by dsimp only;omega,e2,rfl⟩
  ·rintro ⟨r,cB,qb⟩ aO ⟨rfl,rfl,h1,h2,h3,h4⟩;dsimp only at h1 h2 h3 h4 ⊢;have f1:∀ i,i < hint + cB + 1->p i = true:=fun i hi=>mono i _ (by omega) h2 h3
   have f2:∀ i,hint + min qb (n - hint) <= i->i < n->p i = false:=fun i h5 h6=>by
    by_cases g:hint + qb < n
    ·exact zl _ i (by omega) h6 (h4 g)
    ·omega
   have f3:hint + cB + 1 <= hint + min qb (n - hint):=by omega
   have f4:hint + min qb (n - hint) <= n:=by omega
   have f5:hint + min qb (n - hint) - (hint + cB + 1) < n:=by omega
   generalize hint + cB + 1 = lo at *;generalize hint + min qb (n - hint) = hi at *;refine wpS_bind ?_;rw [range_list];refine wpS_mono (Q:=fun (b:Option (Option Nat) × Nat × Nat) aO=>st = aO/\b.1 = none/\b.2.2 <= n/\(∀ i,i < b.2.2->p i = true)/\(∀ i,b.2.2 <= i->i < n->p i = false))
    (cj (fun k (b:Option (Option Nat) × Nat × Nat) aO=>st = aO/\b.1 = none/\b.2.1 <= b.2.2/\b.2.2 <= n/\(∀ i,i < b.2.1->p i = true)/\(∀ i,b.2.2 <= i->i < n->p i = false)/\k = b.2.2 - b.2.1) ?_ _ (hi - lo) _ _ (by rw [List.length_range'];omega) ⟨rfl,rfl,f3,f4,f1,f2,rfl⟩) ?_
   ·rintro y k ⟨r,l,h⟩ aO ⟨rfl,rfl,g1,g2,g3,g4,g5⟩;dsimp only at g1 g2 g3 g4 g5 ⊢
    by_cases g:l >= h
    ·rw [if_pos g];obtain rfl:l = h:=by omega
     exact wpS_pure ⟨rfl,rfl,g2,g3,g4⟩
    ·rw [if_neg g];obtain ⟨x,hx,mx,px⟩:=Ej (l + (h - l) / 2) (by omega);refine wpS_bind (gx L ng hx mx px hk ?_);dsimp only
     cases e2:p (l + (h - l) / 2) with
     | true=>exact wpS_pure ⟨_,show h - (l + (h - l) / 2 + 1) < k by omega,rfl,rfl,by dsimp only;omega,g2,fun i hi=>mono i _ (by dsimp only at hi;omega) (by omega) e2,g4,rfl⟩
     | false=>exact wpS_pure ⟨_,show l + (h - l) / 2 - l < k by omega,rfl,rfl,by dsimp only;omega,by dsimp only;omega,g3,fun i h5 h6=>zl _ i h5 h6 e2,rfl⟩
   ·rintro ⟨r,l,h⟩ aO ⟨rfl,rfl,g1,g2,g3⟩;exact wpS_pure (q h g1 g2 g3)
 | false =>
  rw [if_neg (by decide)];refine wpS_bind ?_;rw [range_list];refine wpS_mono (Q:=fun (b:Option (Option Nat) × Nat × Nat) aO=>st = aO/\b.1 = none/\b.2.1 < b.2.2/\b.2.1 <= hint/\p (hint - b.2.1) = false/\(b.2.2 <= hint->p (hint - b.2.2) = true))
   (cj (fun k (b:Option (Option Nat) × Nat × Nat) aO=>st = aO/\b.1 = none/\b.2.1 < b.2.2/\b.2.1 <= hint/\p (hint - b.2.1) = false/\k = hint - b.2.1) ?_ _ hint _ _ (by rw [List.length_range'];omega) ⟨rfl,rfl,by decide,Nat.zero_le _,e,rfl⟩) ?_
  ·rintro y k ⟨r,cB,qb⟩ aO ⟨rfl,rfl,h1,h2,h3,h4⟩;dsimp only at h1 h2 h3 h4 ⊢
   by_cases g:qb >= hint + 1
   ·rw [if_pos g];exact wpS_pure ⟨rfl,rfl,h1,h2,h3,fun z=>by dsimp only at z;omega⟩
   ·rw [if_neg g];obtain ⟨x,hx,mx,px⟩:=Ej (hint - qb) (by omega);refine wpS_bind (gx L ng hx mx px hk ?_);dsimp only
    cases e2:p (hint - qb) with
    | true=>exact wpS_pure ⟨rfl,rfl,h1,h2,h3,fun _=>e2⟩
    | false=>exact wpS_pure ⟨_,show hint - qb < k by omega,rfl,rfl,by dsimp only;omega,by dsimp only;omega,e2,rfl⟩
  ·rintro ⟨r,cB,qb⟩ aO ⟨rfl,rfl,h1,h2,h3,h4⟩;dsimp only at h1 h2 h3 h4 ⊢;have f1:∀ i,i < hint + 1 - min qb (hint + 1)->p i = true:=fun i hi=>by
    by_cases g:qb <= hint
    ·exact mono i _ (by omega) (by omega) (h4 g)
    ·omega
   have f2:∀ i,hint - cB <= i->i < n->p i = false:=fun i h5 h6=>zl _ i h5 h6 h3
   have f3:hint + 1 - min qb (hint + 1) <= hint - cB:=by omega
   have f4:hint - cB <= n:=by omega
   have f5:hint - cB - (hint + 1 - min qb (hint + 1)) < n:=by omega
   generalize hint + 1 - min qb (hint + 1) = lo at *;generalize hint - cB = hi at *;refine wpS_bind ?_;rw [range_list];refine wpS_mono (Q:=fun (b:Option (Option Nat) × Nat × Nat) aO=>st = aO/\b.1 = none/\b.2.2 <= n/\(∀ i,i < b.2.2->p i = true)/\(∀ i,b.2.2 <= i->i < n->p i = false))
    (cj (fun k (b:Option (Option Nat) × Nat × Nat) aO=>st = aO/\b.1 = none/\b.2.1 <= b.2.2/\b.2.2 <= n/\(∀ i,i < b.2.1->p i = true)/\(∀ i,b.2.2 <= i->i < n->p i = false)/\k = b.2.2 - b.2.1) ?_ _ (hi - lo) _ _ (by rw [List.length_range'];omega) ⟨rfl,rfl,f3,f4,f1,f2,rfl⟩) ?_
   ·rintro y k ⟨r,l,h⟩ aO ⟨rfl,rfl,g1,g2,g3,g4,g5⟩;dsimp only at g1 g2 g3 g4 g5 ⊢
    by_cases g:l >= h
    ·rw [if_pos g];obtain rfl:l = h:=by omega
     exact wpS_pure ⟨rfl,rfl,g2,g3,g4⟩
    ·rw [if_neg g];obtain ⟨x,hx,mx,px⟩:=Ej (l + (h - l) / 2) (by omega);refine wpS_bind (gx L ng hx mx px hk ?_);dsimp only
     cases e2:p (l + (h - l) / 2) with
     | true=>exact wpS_pure ⟨_,show h - (l + (h - l) / 2 + 1) < k by omega,rfl,rfl,by dsimp only;omega,g2,fun i hi=>mono i _ (by dsimp only at hi;omega) (by omega) e2,g4,rfl⟩
     | false=>exact wpS_pure ⟨_,show l + (h - l) / 2 - l < k by omega,rfl,rfl,by dsimp only;omega,by dsimp only;omega,g3,fun i h5 h6=>zl _ i h5 h6 e2,rfl⟩
   ·rintro ⟨r,l,h⟩ aO ⟨rfl,rfl,g1,g2,g3⟩;exact wpS_pure (q h g1 g2 g3)
end
end TS
namespace TS
open PySem PySem.W PyProof.Rows
variable {c:Keyed->Keyed->Bool} {x y:Keyed} {k base n:Nat} {arr:Array Keyed} {st:SortSt}
abbrev gw (c:Keyed->Keyed->Bool) (l:List Keyed):Prop:=l.Pairwise fun x y=>c x y = true
structure LI (M:Keyed->Prop) (c:Keyed->Keyed->Bool) (all out A B:List Keyed):Prop where
 pm:(out ++ (A ++ B)).Perm all
 so:gw c out
 sa:gw c A
 sb:gw c B
 lt:∀ x ∈ out,∀ y ∈ A ++ B,c x y = true
 mm:∀ x ∈ all,M x
 nd:all.Nodup
section
variable {M:Keyed->Prop} {all out A B A1 A2 B1 B2:List Keyed}
theorem LI.memA (h:LI M c all out A B) (hx:x ∈ A):M x:=h.mm x (h.pm.mem_iff.mp (List.mem_append_right _ (List.mem_append_left _ hx)))
theorem LI.memB (h:LI M c all out A B) (hx:x ∈ B):M x:=h.mm x (h.pm.mem_iff.mp (List.mem_append_right _ (List.mem_append_right _ hx)))
theorem LI.ne (h:LI M c all out A B) (hx:x ∈ A) (hy:y ∈ B):x ≠ y:=by
 have:=(h.pm.nodup_iff.mpr h.nd);rw [List.nodup_append] at this;have:=this.2.1;rw [List.nodup_append] at this;exact this.2.2 x hx y hy
theorem LI.takeA (h:LI M c all out (A1 ++ A2) B) (l:∀ x ∈ A1,∀ y ∈ B,c x y = true):LI M c all (out ++ A1) A2 B:=by
 obtain ⟨pm,so,sa,sb,lt,mm,nd⟩:=h;have J':=List.pairwise_append.mp sa;refine ⟨by rw [List.append_assoc,<- List.append_assoc A1];exact pm,List.pairwise_append.mpr ⟨so,J'.1,fun x hx y hy=>lt x hx y (by simp [hy])⟩,J'.2.1,sb,fun x hx y hy=>?_,mm,nd⟩
 rcases List.mem_append.mp hx with hx | hx
 ·exact lt x hx y (by rw [List.append_assoc];exact List.mem_append_right _ hy)
 ·rcases List.mem_append.mp hy with hy | hy
  ·exact J'.2.2 x hx y hy
  ·exact l x hx y hy
theorem LI.takeB (h:LI M c all out A (B1 ++ B2)) (l:∀ x ∈ B1,∀ y ∈ A,c x y = true):LI M c all (out ++ B1) A B2:=by
 obtain ⟨pm,so,sa,sb,lt,mm,nd⟩:=h;have J8:=List.pairwise_append.mp sb;refine ⟨List.Perm.trans ?_ pm,List.pairwise_append.mpr ⟨so,J8.1,fun x hx y hy=>lt x hx y (by simp [hy])⟩,sa,J8.2.1,fun x hx y hy=>?_,mm,nd⟩
 ·rw [List.append_assoc];refine List.Perm.append_left out ?_;rw [<- List.append_assoc,<- List.append_assoc];exact List.Perm.append_right B2 List.perm_append_comm
 ·rcases List.mem_append.mp hx with hx | hx
  ·refine lt x hx y ?_
   rcases List.mem_append.mp hy with hy | hy
   ·exact List.mem_append_left _ hy
   ·exact List.mem_append_right _ (List.mem_append_right _ hy)
  ·rcases List.mem_append.mp hy with hy | hy
   ·exact l x hx y hy
   ·exact J8.2.2 x hx y hy
theorem LI.finA (h:LI M c all out A B) (e:B = []):(out ++ A ++ B).Perm all/\gw c (out ++ A ++ B):=by
 subst e;refine ⟨by rw [List.append_assoc];exact h.pm,?_⟩;rw [List.append_nil];exact List.pairwise_append.mpr ⟨h.so,h.sa,fun x hx y hy=>h.lt x hx y (by simp [hy])⟩
theorem LI.finB (h:LI M c all out A B) (e:A = []):(out ++ A ++ B).Perm all/\gw c (out ++ A ++ B):=by
 subst e;refine ⟨by rw [List.append_assoc];exact h.pm,?_⟩;rw [List.append_nil];exact List.pairwise_append.mpr ⟨h.so,h.sb,fun x hx y hy=>h.lt x hx y (by simp [hy])⟩
theorem LI.finL (h:LI M c all out A B) (l:∀ x ∈ B,∀ y ∈ A,c x y = true):(out ++ B ++ A).Perm all/\gw c (out ++ B ++ A):=by
 refine ⟨List.Perm.trans ?_ h.pm,?_⟩
 ·rw [List.append_assoc];exact List.Perm.append_left out List.perm_append_comm
 ·rw [List.append_assoc];exact List.pairwise_append.mpr ⟨h.so,List.pairwise_append.mpr ⟨h.sb,h.sa,l⟩,fun x hx y hy=>h.lt x hx y (by
   rcases List.mem_append.mp hy with hy | hy
   ·exact List.mem_append_right _ hy
   ·exact List.mem_append_left _ hy)⟩
end
structure HI (M:Keyed->Prop) (c:Keyed->Keyed->Bool) (all A B out:List Keyed):Prop where
 pm:((A ++ B) ++ out).Perm all
 so:gw c out
 sa:gw c A
 sb:gw c B
 lt:∀ x ∈ A ++ B,∀ y ∈ out,c x y = true
 mm:∀ x ∈ all,M x
 nd:all.Nodup
section
variable {M:Keyed->Prop} {all out A B A1 A2 B1 B2:List Keyed}
theorem HI.memA (h:HI M c all A B out) (hx:x ∈ A):M x:=h.mm x (h.pm.mem_iff.mp (List.mem_append_left _ (List.mem_append_left _ hx)))
theorem HI.memB (h:HI M c all A B out) (hx:x ∈ B):M x:=h.mm x (h.pm.mem_iff.mp (List.mem_append_left _ (List.mem_append_right _ hx)))
theorem HI.ne (h:HI M c all A B out) (hx:x ∈ A) (hy:y ∈ B):x ≠ y:=by
 have:=(h.pm.nodup_iff.mpr h.nd);rw [List.nodup_append] at this;have:=this.1;rw [List.nodup_append] at this;exact this.2.2 x hx y hy
theorem HI.takeA (h:HI M c all (A1 ++ A2) B out) (l:∀ x ∈ B,∀ y ∈ A2,c x y = true):HI M c all A1 B (A2 ++ out):=by
 obtain ⟨pm,so,sa,sb,lt,mm,nd⟩:=h;have J':=List.pairwise_append.mp sa;refine ⟨List.Perm.trans ?_ pm,List.pairwise_append.mpr ⟨J'.2.1,so,fun x hx y hy=>lt x (by simp [hx]) y hy⟩,J'.1,sb,fun x hx y hy=>?_,mm,nd⟩
 ·rw [<- List.append_assoc];refine List.Perm.append_right out ?_;rw [List.append_assoc,List.append_assoc];exact List.Perm.append_left A1 List.perm_append_comm
 ·rcases List.mem_append.mp hy with hy | hy
  ·rcases List.mem_append.mp hx with hx | hx
   ·exact J'.2.2 x hx y hy
   ·exact l x hx y hy
  ·refine lt x ?_ y hy
   rcases List.mem_append.mp hx with hx | hx
   ·exact List.mem_append_left _ (List.mem_append_left _ hx)
   ·exact List.mem_append_right _ hx
theorem HI.takeB (h:HI M c all A (B1 ++ B2) out) (l:∀ x ∈ A,∀ y ∈ B2,c x y = true):HI M c all A B1 (B2 ++ out):=by
 obtain ⟨pm,so,sa,sb,lt,mm,nd⟩:=h;have J8:=List.pairwise_append.mp sb;refine ⟨by rw [<- List.append_assoc,List.append_assoc A];exact pm,List.pairwise_append.mpr ⟨J8.2.1,so,fun x hx y hy=>lt x (by simp [hx]) y hy⟩,sa,J8.1,fun x hx y hy=>?_,mm,nd⟩
 rcases List.mem_append.mp hy with hy | hy
 ·rcases List.mem_append.mp hx with hx | hx
  ·exact l x hx y hy
  ·exact J8.2.2 x hx y hy
 ·refine lt x ?_ y hy
  rcases List.mem_append.mp hx with hx | hx
  ·exact List.mem_append_left _ hx
  ·exact List.mem_append_right _ (List.mem_append_left _ hx)
theorem HI.finA (h:HI M c all A B out) (e:A = []):(A ++ B ++ out).Perm all/\gw c (A ++ B ++ out):=by
 subst e;refine ⟨h.pm,List.pairwise_append.mpr ⟨h.sb,h.so,fun x hx y hy=>h.lt x hx y hy⟩⟩
theorem HI.finB (h:HI M c all A B out) (e:B = []):(A ++ B ++ out).Perm all/\gw c (A ++ B ++ out):=by
 subst e;refine ⟨h.pm,List.pairwise_append.mpr ⟨by rw [List.append_nil];exact h.sa,h.so,fun x hx y hy=>h.lt x hx y hy⟩⟩
theorem HI.finL (h:HI M c all A B out) (l:∀ x ∈ B,∀ y ∈ A,c x y = true):(B ++ A ++ out).Perm all/\gw c (B ++ A ++ out) :=
 ⟨(List.Perm.append_right out List.perm_append_comm).trans h.pm, List.pairwise_append.mpr ⟨List.pairwise_append.mpr ⟨h.sb, h.sa, l⟩, h.so, fun x hx y hy => h.lt x (by
     rcases List.mem_append.mp hx with hx | hx
     ·exact List.mem_append_right _ hx
     ·exact List.mem_append_left _ hx) y hy⟩⟩
end
section
variable {a:Array Keyed} {i:Nat}
theorem oW:(a.extract i (i + k)).toList = (a.toList.drop i).take k:=by
 rw [Array.toList_extract,List.extract_eq_take_drop]
 congr 1
 omega
theorem kP:(a.extract i).toList = a.toList.drop i:=by
 rw [Array.toList_extract,List.extract_eq_take_drop,List.take_of_length_le];rw [List.length_drop,Array.length_toList];exact Nat.le_refl _
theorem jt (h:i < a.size):∃ x,a[i]? = some x/\a.toList.drop i = x :: a.toList.drop (i + 1) :=
 ⟨a[i],Array.getElem?_eq_getElem h,by rw [<- Array.getElem_toList];exact List.drop_eq_getElem_cons (by rw [Array.length_toList];exact h)⟩
theorem oZ:a.toList.drop i = (a.toList.drop i).take k ++ a.toList.drop (i + k):=by
 rw [<- List.drop_drop];exact (List.take_append_drop k _).symm
theorem rY (h:a.size <= i):a.toList.drop i = []:=List.drop_eq_nil_of_le (by rw [Array.length_toList];exact h)
end
local macro_rules | `(term| type_of% $n:ident) => return Lean.mkIdent (Lean.mkPrivateNameCore `PySem.Builtin.List.W1All (`PySem.Builtin ++ n.getId))
local macro_rules | `(tactic| delta $n:ident) => if Lean.isPrivateName n.getId then Lean.Macro.throwUnsupported else `(tactic| delta $(Lean.mkIdent (Lean.mkPrivateNameCore `PySem.Builtin.List.W1All (`PySem.Builtin ++ n.getId))):ident)
section
variable {prog:Program} {w:World} {A:Around} {s:Shared} {E:Value->Shared->Prop} {κ:SortKind} {M:Keyed->Prop}
theorem seg_at (hn:base + n <= arr.size) {i:Nat} (hi:i < n):∃ (h:i < ((arr.toList.drop base).take n).length),arr[base + i]? = some (((arr.toList.drop base).take n)[i]):=by
 have h:i < ((arr.toList.drop base).take n).length:=by
  rw [List.length_take,List.length_drop,Array.length_toList];omega
 refine ⟨h,?_⟩;rw [List.getElem_take,List.getElem_drop,<- Array.getElem?_toList,List.getElem?_eq_getElem]
theorem ve {l:List Keyed} (hk:k <= n) (h:x ∈ l.take k):∃ i,∃ hi:i < (l.take n).length,i < k/\(l.take n)[i] = x:=by
 obtain ⟨i,hi,e⟩:=List.getElem_of_mem h;rw [List.length_take] at hi;refine ⟨i,by rw [List.length_take];omega,by omega,?_⟩;rw [List.getElem_take] at e ⊢;exact e
theorem wC {l:List Keyed} (h:x ∈ l.drop k):∃ i,∃ hi:i < l.length,k <= i/\l[i] = x:=by
 obtain ⟨i,hi,e⟩:=List.getElem_of_mem h;rw [List.length_drop] at hi;rw [List.getElem_drop] at e;exact ⟨k + i,by omega,by omega,e⟩
theorem lP (L : uT prog w A s κ M c) {hint : Nat} {Q : Option Nat -> SortSt -> Prop} (hn : base + n <= arr.size) (hs : gw c ((arr.toList.drop base).take n))
    (hm:∀ x ∈ (arr.toList.drop base).take n,M x) (my:M y) (hh:hint < n) (hk:PyProof.Rows.kindOf st = κ)
    (q:∀ k,k <= n->(∀ x ∈ (arr.toList.drop base).take k,c y x = false)->(∀ x ∈ ((arr.toList.drop base).take n).drop k,c y x = true)->Q (some k) st) :
    wpS (model prog w) A E s (ki false y arr base n hint) Q st:=by
 have hl:((arr.toList.drop base).take n).length = n:=by rw [List.length_take,List.length_drop,Array.length_toList];omega
 have pg:=List.pairwise_iff_getElem.mp hs;refine qW L (fun i=>!(c y (((arr.toList.drop base).take n).getD i y))) my (fun i hi=>?_) hh (fun i j wo hj e=>?_) hk fun k Ot f1 f2=>q k Ot (fun x hx=>?_) fun x hx=>?_
 ·obtain ⟨h1,h2⟩:=seg_at hn hi;refine ⟨_,h2,hm _ (List.getElem_mem h1),?_⟩;rw [List.getD_eq_getElem?_getD,List.getElem?_eq_getElem h1]
  rfl
 ·have hi:i < ((arr.toList.drop base).take n).length:=by omega
  have hj:j < ((arr.toList.drop base).take n).length:=by omega
  rw [List.getD_eq_getElem?_getD,List.getElem?_eq_getElem hi];rw [List.getD_eq_getElem?_getD,List.getElem?_eq_getElem hj] at e;simp only [Option.getD_some,Bool.not_eq_true'] at e ⊢
  by_cases g:i = j
  ·subst g;exact e
  ·cases z:c y (((arr.toList.drop base).take n)[i]) with
   | false=>rfl
   | true=>rw [L.trans _ _ _ my (hm _ (List.getElem_mem hi)) (hm _ (List.getElem_mem hj)) z (pg i j hi hj (by omega))] at e;cases e
 ·obtain ⟨i,hi,h1,rfl⟩:=ve Ot hx;have:=f1 i h1;rw [List.getD_eq_getElem?_getD,List.getElem?_eq_getElem hi] at this;simpa using this
 ·obtain ⟨i,hi,h1,rfl⟩:=wC hx;have:=f2 i h1 (by omega);rw [List.getD_eq_getElem?_getD,List.getElem?_eq_getElem hi] at this;simpa using this
theorem oQ (L : uT prog w A s κ M c) {hint : Nat} {Q : Option Nat -> SortSt -> Prop} (hn : base + n <= arr.size) (hs : gw c ((arr.toList.drop base).take n))
    (hm:∀ x ∈ (arr.toList.drop base).take n,M x) (my:M y) (hh:hint < n) (hk:PyProof.Rows.kindOf st = κ)
    (q:∀ k,k <= n->(∀ x ∈ (arr.toList.drop base).take k,c x y = true)->(∀ x ∈ ((arr.toList.drop base).take n).drop k,c x y = false)->Q (some k) st) :
    wpS (model prog w) A E s (ki true y arr base n hint) Q st:=by
 have hl:((arr.toList.drop base).take n).length = n:=by rw [List.length_take,List.length_drop,Array.length_toList];omega
 have pg:=List.pairwise_iff_getElem.mp hs;refine qW L (fun i=>c (((arr.toList.drop base).take n).getD i y) y) my (fun i hi=>?_) hh (fun i j wo hj e=>?_) hk fun k Ot f1 f2=>q k Ot (fun x hx=>?_) fun x hx=>?_
 ·obtain ⟨h1,h2⟩:=seg_at hn hi;refine ⟨_,h2,hm _ (List.getElem_mem h1),?_⟩;rw [List.getD_eq_getElem?_getD,List.getElem?_eq_getElem h1]
  rfl
 ·have hi:i < ((arr.toList.drop base).take n).length:=by omega
  have hj:j < ((arr.toList.drop base).take n).length:=by omega
  rw [List.getD_eq_getElem?_getD,List.getElem?_eq_getElem hi];rw [List.getD_eq_getElem?_getD,List.getElem?_eq_getElem hj] at e;simp only [Option.getD_some] at e ⊢
  by_cases g:i = j
  ·subst g;exact e
  ·exact L.trans _ _ _ (hm _ (List.getElem_mem hi)) (hm _ (List.getElem_mem hj)) my (pg i j hi hj (by omega)) e
 ·obtain ⟨i,hi,h1,rfl⟩:=ve Ot hx;have:=f1 i h1;rw [List.getD_eq_getElem?_getD,List.getElem?_eq_getElem hi] at this;simpa using this
 ·obtain ⟨i,hi,h1,rfl⟩:=wC hx;have:=f2 i h1 (by omega);rw [List.getD_eq_getElem?_getD,List.getElem?_eq_getElem hi] at this;simpa using this
abbrev Gs (st:SortSt) (g:Nat):SortSt:=SortSt.mk' (PyProof.Rows.kindOf st) (arrOf st) (pendingOf st) g (failedOf st)
theorem sN {g g':Nat} {Q:Unit->SortSt->Prop} (q:Q () (Gs st g)):wpS (model prog w) A E s (IK g) Q (Gs st g'):=by
 unfold IK
 delta setMinGallop
 exact wpS_modify q
theorem jd {n:String} {Q:Unit->SortSt->Prop} (q:Q () st):wpS (model prog w) A E s (liftM (rule n)) Q st:=by
 refine wpS_lift ?_;exact wpAny_rule ⟨rfl,q⟩
end
end TS
namespace TS
open PySem.W PyProof.Rows
theorem ar {Md:PySem.Model} {A:PySem.Around} {E:PySem.Value->PySem.Shared->Prop} {s:PySem.Shared} {σ α:Type} {p:Prop} [Decidable p] {x y:StateT σ PySem.Sem α} {Q:α->σ->Prop} {st:σ} (h1:p->wpS Md A E s x Q st) (h2:¬ p->wpS Md A E s y Q st):wpS Md A E s (if p then x else y) Q st:=by
 by_cases h:p
 ·rw [if_pos h];exact h1 h
 ·rw [if_neg h];exact h2 h
end TS
namespace TS
local macro_rules | `(tactic| lcg_src) => `(tactic| try dsimp (zeta := false) (zetaUnused := false) only)
local macro_rules | `(tactic| lcg_sub) => `(tactic| (extract_lets +onlyGivenNames -underBinder -merge -useContext zz; subst zz; try dsimp (zeta := false) (zetaUnused := false) only))
open PySem PySem.W PyProof.Rows
local macro_rules | `(term| type_of% $n:ident) => return Lean.mkIdent (Lean.mkPrivateNameCore `PySem.Builtin.List.W1All (`PySem.Builtin ++ n.getId))
local macro_rules | `(tactic| delta $n:ident) => if Lean.isPrivateName n.getId then Lean.Macro.throwUnsupported else `(tactic| delta $(Lean.mkIdent (Lean.mkPrivateNameCore `PySem.Builtin.List.W1All (`PySem.Builtin ++ n.getId))):ident)
section
variable {prog:Program} {w:World} {A:Around} {s:Shared} {E:Value->Shared->Prop} {κ:SortKind} {M:Keyed->Prop} {c:Keyed->Keyed->Bool}
variable {a b:Array Keyed} {all:List Keyed}
theorem Im {x:Keyed} {l:List Keyed} (h:gw c (x :: l)):∀ z ∈ l,c x z = true:=(List.pairwise_cons.mp h).1
theorem iN (L:uT prog w A s κ M c) {x y:Keyed} {l:List Keyed} (h:gw c (x :: l)) (mx:M x) (my:M y) (ml:∀ z ∈ l,M z) (e:c y x = true):∀ z ∈ x :: l,c y z = true:=fun z hz=>by
 rcases List.mem_cons.mp hz with rfl | hz
 ·exact e
 ·exact L.trans _ _ _ my mx (ml z hz) e (Im h z hz)
abbrev P7 (M:Keyed->Prop) (c:Keyed->Keyed->Bool) (all:List Keyed) (a b:Array Keyed) (st:SortSt) (k:Nat) (r:Option (Array Keyed) × Array Keyed × Nat × Nat × Nat × Nat × Nat) (aO:SortSt):Prop :=
 ∃ g,aO = Gs st g/\((∃ out,r.1 = some out/\out.toList.Perm all/\gw c out.toList) \/ (r.1 = none/\LI M c all r.2.1.toList (a.toList.drop r.2.2.1) (b.toList.drop r.2.2.2.1)/\r.2.2.1 + 1 < a.size/\r.2.2.2.1 < b.size/\0 < r.2.2.2.1/\a.size - r.2.2.1 + (b.size - r.2.2.2.1) < k))
abbrev P6 (M:Keyed->Prop) (c:Keyed->Keyed->Bool) (all:List Keyed) (a b:Array Keyed) (st:SortSt) (k k':Nat) (r:Option (Array Keyed) × Array Keyed × Nat × Nat × Nat × Nat × Nat) (aO:SortSt):Prop :=
 ∃ g,aO = Gs st g/\r.1 = none/\LI M c all r.2.1.toList (a.toList.drop r.2.2.1) (b.toList.drop r.2.2.2.1)/\r.2.2.1 + 1 < a.size/\r.2.2.2.1 < b.size/\0 < r.2.2.2.1/\k' = a.size - r.2.2.1 + (b.size - r.2.2.2.1)/\k' < k
theorem Na (L : uT prog w A s κ M c) {st : SortSt} {Q : Array Keyed -> SortSt -> Prop} (h : LI M c all [] a.toList b.toList) (na : 0 < a.size) (nb : 0 < b.size)
    (h0:∀ x,b[0]? = some x->∀ y ∈ a.toList,c x y = true) (hl:∀ x ∈ b.toList,∀ y ∈ a.toList.drop (a.size - 1),c x y = true) (hk:PyProof.Rows.kindOf st = κ)
    (q:∀ r g,r.toList.Perm all->gw c r.toList->Q r (Gs st g)):wpS (model prog w) A E s (Nc a b) Q st:=by
 have eD:∀ (out:Array Keyed) ia ib,(out ++ a.extract ia ++ b.extract ib).toList = out.toList ++ a.toList.drop ia ++ b.toList.drop ib:=fun out ia ib=>by
  rw [Array.toList_append,Array.toList_append,kP,kP]
 have eL:∀ (out:Array Keyed) ia ib,(out ++ b.extract ib ++ a.extract ia).toList = out.toList ++ b.toList.drop ib ++ a.toList.drop ia:=fun out ia ib=>by
  rw [Array.toList_append,Array.toList_append,kP,kP]
 have zm:∀ {out:Array Keyed} {ia ib:Nat},LI M c all out.toList (a.toList.drop ia) (b.toList.drop ib)->ia + 1 = a.size->(out ++ b.extract ib ++ a.extract ia).toList.Perm all/\gw c (out ++ b.extract ib ++ a.extract ia).toList:=fun {out ia ib} h e=>by
  rw [eL];refine h.finL fun x hx y hy=>hl x (List.mem_of_mem_drop hx) y ?_
  rw [show a.size - 1 = ia by omega];exact hy
 have rZ:∀ {out:Array Keyed} {ia ib:Nat},LI M c all out.toList (a.toList.drop ia) (b.toList.drop ib)->ib = b.size->(out ++ a.extract ia ++ b.extract ib).toList.Perm all/\gw c (out ++ a.extract ia ++ b.extract ib).toList:=fun {out ia ib} h e=>by
  rw [eD];exact h.finA (rY (by omega))
 have r8:∀ {out:Array Keyed} {ia ib:Nat},LI M c all out.toList (a.toList.drop ia) (b.toList.drop ib)->ia = a.size->(out ++ a.extract ia ++ b.extract ib).toList.Perm all/\gw c (out ++ a.extract ia ++ b.extract ib).toList:=fun {out ia ib} h e=>by
  rw [eD];exact h.finB (rY (by omega))
 have L6:∀ g,PyProof.Rows.kindOf (Gs st g) = κ:=fun _=>hk
 unfold Nc
 delta mergeLo
 lcg_src;refine wpS_bind (jd ?_);obtain ⟨b0,M1,P1⟩:=jt (a:=b) nb;refine wpS_bind (aM M1 ?_);have i1:LI M c all (#[b0]:Array Keyed).toList (a.toList.drop 0) (b.toList.drop 1):=by
  have:=LI.takeB (out:=[]) (A:=a.toList) (B1:=[b0]) (B2:=b.toList.drop 1) (by rw [List.drop_zero] at P1;rw [P1] at h;exact h) fun x hx y hy=>by
   rw [List.mem_singleton.mp hx];exact h0 b0 M1 y hy
  exact this
 by_cases e1:1 = b.size
 ·rw [if_pos (by rw [<- e1];rfl)];have:=rZ i1 e1;exact wpS_pure (q _ (gallopOf st) this.1 this.2)
 rw [if_neg (by simpa using e1)]
 by_cases e2:0 + 1 = a.size
 ·rw [if_pos (by rw [<- e2];rfl)];have:=zm i1 e2;exact wpS_pure (q _ (gallopOf st) this.1 this.2)
 rw [if_neg (by simpa using e2)];refine wpS_bind (wpS_get ?_);refine wpS_bind ?_;rw [range_list];refine wpS_mono (Q:=fun (r:Option (Array Keyed) × Array Keyed × Nat × Nat × Nat) aO=>∃ out g,r.1 = some out/\aO = Gs st g/\out.toList.Perm all/\gw c out.toList)
  (cj (fun k (r:Option (Array Keyed) × Array Keyed × Nat × Nat × Nat) aO=>∃ g,aO = Gs st g/\r.1 = none/\LI M c all r.2.1.toList (a.toList.drop r.2.2.1) (b.toList.drop r.2.2.2.1)/\r.2.2.1 + 1 < a.size/\r.2.2.2.1 < b.size/\0 < r.2.2.2.1/\k = a.size - r.2.2.1 + (b.size - r.2.2.2.1)) ?_ _ (a.size + (b.size - 1)) _ _ (by rw [List.length_range'];omega) ⟨gallopOf st,rfl,rfl,i1,by dsimp only;omega,by dsimp only;omega,Nat.one_pos,by dsimp only;omega⟩) ?_
 ·rintro _ k ⟨r0,out,ia,ib,mg⟩ aO ⟨g,rfl,rfl,i2,ha,hb,hp,yz⟩;dsimp only at i2 ha hb hp yz
  (lcg_src;lcg_sub;lcg_sub;lcg_sub;lcg_sub;lcg_sub;lcg_sub;lcg_sub;lcg_sub;lcg_sub)
  refine wpS_bind ?_;rw [range_list];refine wpS_mono (Q:=fun (r:Option (Array Keyed) × Array Keyed × Nat × Nat × Nat × Nat) aO=>aO = Gs st g/\((∃ out,r.1 = some out/\out.toList.Perm all/\gw c out.toList) \/ (r.1 = none/\LI M c all r.2.1.toList (a.toList.drop r.2.2.1) (b.toList.drop r.2.2.2.1)/\r.2.2.1 + 1 < a.size/\r.2.2.2.1 < b.size/\0 < r.2.2.2.1/\a.size - r.2.2.1 + (b.size - r.2.2.2.1) < k)))
   (cj (fun k' (r:Option (Array Keyed) × Array Keyed × Nat × Nat × Nat × Nat) aO=>aO = Gs st g/\r.1 = none/\LI M c all r.2.1.toList (a.toList.drop r.2.2.1) (b.toList.drop r.2.2.2.1)/\r.2.2.1 + 1 < a.size/\r.2.2.2.1 < b.size/\0 < r.2.2.2.1/\k' = a.size - r.2.2.1 + (b.size - r.2.2.2.1)/\k' <= k) ?_ _ k _ _ ?_ ⟨rfl,rfl,i2,ha,hb,hp,yz,Nat.le_refl _⟩) ?_
  ·rintro _ k' ⟨r0,out,ia,ib,ac,bc⟩ aO ⟨rfl,rfl,i3,ha,hb,hp,nJ,Rp⟩;dsimp only at i3 ha hb hp nJ
   (lcg_src;lcg_sub;lcg_sub;lcg_sub;lcg_sub;lcg_sub;lcg_sub;lcg_sub;lcg_sub;lcg_sub)
   obtain ⟨y,hy,dy⟩:=jt hb;obtain ⟨x,hx,dx⟩:=jt (show ia < a.size by omega);have my:M y:=i3.memB (by rw [dy];exact List.mem_cons_self);have mx:M x:=i3.memA (by rw [dx];exact List.mem_cons_self);refine wpS_bind (aM hy (wpS_bind (aM hx (wpS_bind (uZ L my mx (L6 g) ?_)))));lcg_src
   cases e:c y x with
   | true =>
    rw [if_pos rfl];refine wpS_bind (aM hy ?_);have i4:LI M c all (out.push y).toList (a.toList.drop ia) (b.toList.drop (ib + 1)):=by
     rw [Array.toList_push];rw [dy] at i3;refine LI.takeB (B1:=[y]) i3 fun z hz v hv=>?_
     rw [List.mem_singleton.mp hz];rw [dx] at hv i3;exact iN L i3.sa mx my (fun z hz=>i3.memA (List.mem_cons_of_mem _ hz)) e v hv
    by_cases e1:ib + 1 = b.size
    ·rw [if_pos (by rw [<- e1];exact beq_self_eq_true _)];exact wpS_pure ⟨rfl,.inl ⟨_,rfl,rZ i4 e1⟩⟩
    ·rw [if_neg (by simpa using e1)]
     split
     ·exact wpS_pure ⟨rfl,.inr ⟨rfl,i4,by dsimp only;omega,by dsimp only;omega,by dsimp only;omega,by dsimp only;omega⟩⟩
     ·exact wpS_pure ⟨_,show a.size - ia + (b.size - (ib + 1)) < k' by omega,rfl,rfl,i4,by dsimp only;omega,by dsimp only;omega,by dsimp only;omega,rfl,by omega⟩
   | false =>
    rw [if_neg (by decide)];refine wpS_bind (aM hx ?_);have e':c x y = true:=L.tot _ _ my mx (fun z=>i3.ne (x:=x) (y:=y) (by rw [dx];exact List.mem_cons_self) (by rw [dy];exact List.mem_cons_self) z.symm) e
    have i4:LI M c all (out.push x).toList (a.toList.drop (ia + 1)) (b.toList.drop ib):=by
     rw [Array.toList_push];rw [dx] at i3;refine LI.takeA (A1:=[x]) i3 fun z hz v hv=>?_
     rw [List.mem_singleton.mp hz];rw [dy] at hv i3;exact iN L i3.sb my mx (fun z hz=>i3.memB (List.mem_cons_of_mem _ hz)) e' v hv
    by_cases e1:ia + 1 + 1 = a.size
    ·rw [if_pos (by rw [<- e1];exact beq_self_eq_true _)];exact wpS_pure ⟨rfl,.inl ⟨_,rfl,zm i4 e1⟩⟩
    ·rw [if_neg (by simpa using e1)]
     split
     ·exact wpS_pure ⟨rfl,.inr ⟨rfl,i4,by dsimp only;omega,by dsimp only;omega,by dsimp only;omega,by dsimp only;omega⟩⟩
     ·exact wpS_pure ⟨_,show a.size - (ia + 1) + (b.size - ib) < k' by omega,rfl,rfl,i4,by dsimp only;omega,by dsimp only;omega,by dsimp only;omega,rfl,by omega⟩
  ·rw [List.length_range'];omega
  ·rintro ⟨r0,out,ia,ib,ac,bc⟩ aO ⟨rfl,⟨o,rfl,p1,p2⟩ | ⟨rfl,i3,ha,hb,hp,nJ⟩⟩
   ·exact wpS_pure ⟨o,g,rfl,rfl,p1,p2⟩
   dsimp only at i3 ha hb hp nJ
   (lcg_src;lcg_sub;lcg_sub;lcg_sub;lcg_sub;lcg_sub;lcg_sub;lcg_sub;lcg_sub;lcg_sub;lcg_sub)
   refine wpS_bind (jd ?_);refine wpS_bind ?_;rw [range_list];refine wpS_mono (Q:=P7 M c all a b st k)
    (cj (P6 M c all a b st k) ?_ _ _ _ _ ?_ ⟨g,rfl,rfl,i3,ha,hb,hp,rfl,nJ⟩) ?_
   ·rintro _ k' ⟨r0,out,ia,ib,mg,ac,bc⟩ aO ⟨g,rfl,rfl,i3,ha,hb,hp,nJ,Rp⟩;dsimp only at i3 ha hb hp nJ
    (lcg_src;lcg_sub;lcg_sub;lcg_sub;lcg_sub;lcg_sub;lcg_sub;lcg_sub;lcg_sub;lcg_sub;lcg_sub;lcg_sub)
    (extract_lets +onlyGivenNames -underBinder -merge -useContext J1;clear_value (RS:J1 = _))
    have j1:∀ Hz,wpS (model prog w) A E s (J1 () Hz) (E4 (P7 M c all a b st k) fun r aO=>∃ v9,v9 < k'/\P6 M c all a b st k v9 r aO) (Gs st g):=fun Hz=>by
     rw [RS];lcg_src;refine wpS_bind (sN ?_);obtain ⟨y,hy,dy⟩:=jt hb;have my:M y:=i3.memB (by rw [dy];exact List.mem_cons_self);refine wpS_bind (aM hy ?_);have tA:(a.toList.drop ia).take (a.size - ia) = a.toList.drop ia:=List.take_of_length_le (by rw [List.length_drop,Array.length_toList];exact Nat.le_refl _);refine wpS_bind (lP L (by omega) (by rw [tA];exact i3.sa) (fun x hx=>i3.memA (by rw [tA] at hx;exact hx)) my (by omega) (L6 _) fun k1 Jz f1 f2=>?_)
     rw [tA,List.drop_drop] at f2;have MO:y ∈ b.toList.drop ib:=by rw [dy];exact List.mem_cons_self
     have i4:LI M c all (out.toList ++ (a.toList.drop ia).take k1) (a.toList.drop (ia + k1)) (b.toList.drop ib):=by
      rw [oZ (k:=k1)] at i3;refine i3.takeA fun x hx v hv=>?_
      have mx:M x:=i3.memA (List.mem_append_left _ hx);have e':=L.tot _ _ my mx (fun z=>i3.ne (List.mem_append_left _ hx) MO z.symm) (f1 x hx)
      rw [dy] at hv i3;exact iN L i3.sb my mx (fun z hz=>i3.memB (List.mem_cons_of_mem _ hz)) e' v hv
     (lcg_src;lcg_sub)
     (extract_lets +onlyGivenNames -underBinder -merge -useContext J2;clear_value (Mg:J2 = _))
     have j2:∀ (lC:Array Keyed) (zp:Nat),ia <= zp->LI M c all lC.toList (a.toList.drop zp) (b.toList.drop ib)->(∀ x ∈ a.toList.drop zp,c y x = true)->zp + 1 < a.size->wpS (model prog w) A E s (J2 () lC zp) (E4 (P7 M c all a b st k) fun r aO=>∃ v9,v9 < k'/\P6 M c all a b st k v9 r aO) (Gs st Hz):=fun lC zp hle i5 f3 uR=>by
      rw [Mg];lcg_src;refine wpS_bind (aM hy ?_)
      (lcg_src;lcg_sub;lcg_sub)
      have i6:LI M c all (lC.push y).toList (a.toList.drop zp) (b.toList.drop (ib + 1)):=by
       rw [Array.toList_push];rw [dy] at i5;refine LI.takeB (B1:=[y]) i5 fun z hz v hv=>?_
       rw [List.mem_singleton.mp hz];exact f3 v hv
      refine ar (fun e1=>wpS_pure ⟨_,rfl,.inl ⟨_,rfl,rZ i6 (eq_of_beq e1)⟩⟩) fun e1=>?_
      have e1:ib + 1 ≠ b.size:=by simpa using e1
      obtain ⟨x,hx,dx⟩:=jt (show zp < a.size by omega);have Fg:x ∈ a.toList.drop zp:=by rw [dx];exact List.mem_cons_self
      have mx:M x:=i6.memA Fg;refine wpS_bind (aM hx ?_);have tB:(b.toList.drop (ib + 1)).take (b.size - (ib + 1)) = b.toList.drop (ib + 1):=List.take_of_length_le (by rw [List.length_drop,Array.length_toList];exact Nat.le_refl _);refine wpS_bind (oQ L (by omega) (by rw [tB];exact i6.sb) (fun x hx=>i6.memB (by rw [tB] at hx;exact hx)) mx (by omega) (L6 _) fun k2 Ov f4 f5=>?_)
      rw [tB,List.drop_drop] at f5;have i7:LI M c all ((lC.push y).toList ++ (b.toList.drop (ib + 1)).take k2) (a.toList.drop zp) (b.toList.drop (ib + 1 + k2)):=by
       rw [oZ (i:=ib + 1) (k:=k2)] at i6;refine i6.takeB fun z hz v hv=>?_
       have mz:M z:=i6.memB (List.mem_append_left _ hz);rw [dx] at hv i6;exact iN L i6.sa mx mz (fun z hz=>i6.memA (List.mem_cons_of_mem _ hz)) (f4 z hz) v hv
      (lcg_src;lcg_sub)
      (extract_lets +onlyGivenNames -underBinder -merge -useContext J3;clear_value (OH:J3 = _))
      have j3:∀ (tH:Array Keyed) (Jn:Nat),ib + 1 <= Jn->LI M c all tH.toList (a.toList.drop zp) (b.toList.drop Jn)->(∀ z ∈ b.toList.drop Jn,c z x = false)->Jn < b.size->wpS (model prog w) A E s (J3 () tH Jn) (E4 (P7 M c all a b st k) fun r aO=>∃ v9,v9 < k'/\P6 M c all a b st k v9 r aO) (Gs st Hz):=fun tH Jn Ro i8 f6 RJ=>by
       rw [OH];lcg_src;refine wpS_bind (aM hx ?_)
       (lcg_src;lcg_sub;lcg_sub)
       have i9:LI M c all (tH.push x).toList (a.toList.drop (zp + 1)) (b.toList.drop Jn):=by
        rw [Array.toList_push];rw [dx] at i8;refine LI.takeA (A1:=[x]) i8 fun z hz v hv=>?_
        rw [List.mem_singleton.mp hz];exact L.tot _ _ (i8.memB hv) mx (fun z=>i8.ne (x:=x) List.mem_cons_self hv z.symm) (f6 v hv)
       refine ar (fun e1=>wpS_pure ⟨_,rfl,.inl ⟨_,rfl,zm i9 (eq_of_beq e1)⟩⟩) fun e1=>?_
       have e1:zp + 1 + 1 ≠ a.size:=by simpa using e1
       refine ar (fun _=>wpS_pure ⟨_,rfl,.inr ⟨rfl,i9,by dsimp only;omega,by dsimp only;omega,by dsimp only;omega,by dsimp only;omega⟩⟩) fun _=>?_
       exact wpS_pure ⟨_,show a.size - (zp + 1) + (b.size - Jn) < k' by omega,_,rfl,rfl,i9,by dsimp only;omega,by dsimp only;omega,by dsimp only;omega,rfl,by omega⟩
      refine ar (fun g1=>?_) fun g1=>?_
      ·(lcg_src;lcg_sub;lcg_sub)
       have e0:(lC.push y ++ b.extract (ib + 1) (ib + 1 + k2)).toList = (lC.push y).toList ++ (b.toList.drop (ib + 1)).take k2:=by rw [Array.toList_append,oW]
       rw [<- e0] at i7;refine ar (fun e1=>wpS_pure ⟨_,rfl,.inl ⟨_,rfl,rZ i7 (eq_of_beq e1)⟩⟩) fun e1=>?_
       have e1:ib + 1 + k2 ≠ b.size:=by simpa using e1
       exact j3 _ _ (by omega) i7 f5 (by omega)
      ·obtain rfl:k2 = 0:=by omega
       exact j3 _ _ (Nat.le_refl _) i6 f5 (by omega)
     refine ar (fun g1=>?_) fun g1=>?_
     ·(lcg_src;lcg_sub;lcg_sub)
      have e0:(out ++ a.extract ia (ia + k1)).toList = out.toList ++ (a.toList.drop ia).take k1:=by rw [Array.toList_append,oW]
      rw [<- e0] at i4;refine ar (fun e1=>wpS_pure ⟨_,rfl,.inl ⟨_,rfl,zm i4 (eq_of_beq e1)⟩⟩) fun e1=>?_
      have e1:ia + k1 + 1 ≠ a.size:=by simpa using e1
      refine ar (fun e2=>wpS_pure ⟨_,rfl,.inl ⟨_,rfl,r8 i4 (eq_of_beq e2)⟩⟩) fun e2=>?_
      have e2:ia + k1 ≠ a.size:=by simpa using e2
      exact j2 _ _ (by omega) i4 f2 (by omega)
     ·obtain rfl:k1 = 0:=by omega
      exact j2 _ _ (Nat.le_refl _) i3 f2 ha
    exact ar (fun _=>j1 _) fun _=>j1 _
   ·rw [List.length_range'];dsimp only;omega
   ·rintro ⟨r0,out,ia,ib,mg,ac,bc⟩ aO ⟨g,rfl,⟨o,rfl,p1,p2⟩ | ⟨rfl,i3,ha,hb,hp,nJ⟩⟩
    ·exact wpS_pure ⟨o,g,rfl,rfl,p1,p2⟩
    ·dsimp only at i3 ha hb hp nJ
     (lcg_src;lcg_sub;lcg_sub;lcg_sub;lcg_sub;lcg_sub;lcg_sub;lcg_sub;lcg_sub;lcg_sub;lcg_sub)
     refine wpS_bind (sN ?_);exact wpS_pure ⟨_,nJ,_,rfl,rfl,i3,ha,hb,hp,rfl⟩
 ·rintro ⟨r0,out,ia,ib,mg⟩ aO ⟨o,g,rfl,rfl,p1,p2⟩;exact wpS_pure (q o g p1 p2)
end
end TS
namespace TS
variable {n:Nat}
local macro_rules | `(tactic| lcg_src) => `(tactic| try dsimp (zeta := false) (zetaUnused := false) only)
local macro_rules | `(tactic| lcg_sub) => `(tactic| (extract_lets +onlyGivenNames -underBinder -merge -useContext zz; subst zz; try dsimp (zeta := false) (zetaUnused := false) only))
open PySem PySem.W PyProof.Rows
local macro_rules | `(term| type_of% $n:ident) => return Lean.mkIdent (Lean.mkPrivateNameCore `PySem.Builtin.List.W1All (`PySem.Builtin ++ n.getId))
local macro_rules | `(tactic| delta $n:ident) => if Lean.isPrivateName n.getId then Lean.Macro.throwUnsupported else `(tactic| delta $(Lean.mkIdent (Lean.mkPrivateNameCore `PySem.Builtin.List.W1All (`PySem.Builtin ++ n.getId))):ident)
section
variable {prog:Program} {w:World} {A:Around} {s:Shared} {E:Value->Shared->Prop} {κ:SortKind} {M:Keyed->Prop} {c:Keyed->Keyed->Bool}
variable {a b:Array Keyed} {all:List Keyed}
theorem kO:(a.extract 0 n).toList = a.toList.take n:=by
 rw [Array.toList_extract,List.extract_eq_take_drop,List.drop_zero];rfl
theorem zy {i:Nat}:(a.extract i n).toList = (a.toList.take n).drop i:=by
 rw [Array.toList_extract,List.extract_eq_take_drop,List.drop_take]
theorem jf (h0:0 < n) (h:n <= a.size):∃ x,a[n - 1]? = some x/\a.toList.take n = a.toList.take (n - 1) ++ [x]:=by
 have h1:n - 1 < a.toList.length:=by rw [Array.length_toList];omega
 refine ⟨a.toList[n - 1],by rw [<- Array.getElem?_toList,List.getElem?_eq_getElem h1],?_⟩;have:=List.take_append_getElem (l:=a.toList) (i:=n - 1) h1;rw [show n - 1 + 1 = n by omega] at this;exact this.symm
theorem nQ {i:Nat} (h:i <= n):a.toList.take n = a.toList.take i ++ (a.toList.take n).drop i:=by
 have:=(List.take_append_drop i (a.toList.take n)).symm;rw [List.take_take,Nat.min_eq_left h] at this;exact this
theorem iM (L:uT prog w A s κ M c) {x y:Keyed} {l:List Keyed} (h:gw c (l ++ [x])) (mx:M x) (my:M y) (ml:∀ z ∈ l,M z) (e:c x y = true):∀ z ∈ l ++ [x],c z y = true:=fun z hz=>by
 rcases List.mem_append.mp hz with hz | hz
 ·exact L.trans _ _ _ (ml z hz) mx my ((List.pairwise_append.mp h).2.2 z hz x List.mem_cons_self) e
 ·rw [List.mem_singleton.mp hz];exact e
abbrev Qc (M:Keyed->Prop) (c:Keyed->Keyed->Bool) (all:List Keyed) (a b:Array Keyed) (st:SortSt) (k:Nat) (r:Option (Array Keyed) × Nat × Nat × Array Keyed × Nat × Nat × Nat) (aO:SortSt):Prop :=
 ∃ g,aO = Gs st g/\((∃ out,r.1 = some out/\out.toList.Perm all/\gw c out.toList) \/ (r.1 = none/\HI M c all (a.toList.take r.2.1) (b.toList.take r.2.2.1) r.2.2.2.1.toList.reverse/\0 < r.2.1/\r.2.1 < a.size/\1 < r.2.2.1/\r.2.2.1 <= b.size/\r.2.1 + r.2.2.1 < k))
abbrev Qb (M:Keyed->Prop) (c:Keyed->Keyed->Bool) (all:List Keyed) (a b:Array Keyed) (st:SortSt) (k k':Nat) (r:Option (Array Keyed) × Nat × Nat × Array Keyed × Nat × Nat × Nat) (aO:SortSt):Prop :=
 ∃ g,aO = Gs st g/\r.1 = none/\HI M c all (a.toList.take r.2.1) (b.toList.take r.2.2.1) r.2.2.2.1.toList.reverse/\0 < r.2.1/\r.2.1 < a.size/\1 < r.2.2.1/\r.2.2.1 <= b.size/\k' = r.2.1 + r.2.2.1/\k' < k
theorem Nb (L : uT prog w A s κ M c) {st : SortSt} {Q : Array Keyed -> SortSt -> Prop} (h : HI M c all a.toList b.toList []) (na : 0 < a.size) (nb : 0 < b.size)
    (h0:∀ x ∈ b.toList.take 1,∀ y ∈ a.toList,c x y = true) (hl:∀ x ∈ b.toList,∀ y,a[a.size - 1]? = some y->c x y = true) (hk:PyProof.Rows.kindOf st = κ)
    (q:∀ r g,r.toList.Perm all->gw c r.toList->Q r (Gs st g)):wpS (model prog w) A E s (Nd a b) Q st:=by
 have eD:∀ (out:Array Keyed) na nb,(a.extract 0 na ++ b.extract 0 nb ++ out.reverse).toList = a.toList.take na ++ b.toList.take nb ++ out.toList.reverse:=fun out na nb=>by
  rw [Array.toList_append,Array.toList_append,kO,kO,Array.toList_reverse]
 have eL:∀ (out:Array Keyed) na nb,(b.extract 0 nb ++ a.extract 0 na ++ out.reverse).toList = b.toList.take nb ++ a.toList.take na ++ out.toList.reverse:=fun out na nb=>by
  rw [Array.toList_append,Array.toList_append,kO,kO,Array.toList_reverse]
 have uo:∀ {out:Array Keyed} {na nb:Nat},HI M c all (a.toList.take na) (b.toList.take nb) out.toList.reverse->nb = 1->(b.extract 0 nb ++ a.extract 0 na ++ out.reverse).toList.Perm all/\gw c (b.extract 0 nb ++ a.extract 0 na ++ out.reverse).toList:=fun {out na nb} h e=>by
  rw [eL];refine h.finL fun x hx y hy=>h0 x ?_ y (List.mem_of_mem_take hy)
  rw [e] at hx;exact hx
 have r8:∀ {out:Array Keyed} {na nb:Nat},HI M c all (a.toList.take na) (b.toList.take nb) out.toList.reverse->na = 0->(a.extract 0 na ++ b.extract 0 nb ++ out.reverse).toList.Perm all/\gw c (a.extract 0 na ++ b.extract 0 nb ++ out.reverse).toList:=fun {out na nb} h e=>by
  rw [eD];exact h.finA (by rw [e,List.take_zero])
 have rZ:∀ {out:Array Keyed} {na nb:Nat},HI M c all (a.toList.take na) (b.toList.take nb) out.toList.reverse->nb = 0->(a.extract 0 na ++ b.extract 0 nb ++ out.reverse).toList.Perm all/\gw c (a.extract 0 na ++ b.extract 0 nb ++ out.reverse).toList:=fun {out na nb} h e=>by
  rw [eD];exact h.finB (by rw [e,List.take_zero])
 have zA:∀ (out:Array Keyed) (x:Keyed),(out.push x).toList.reverse = [x] ++ out.toList.reverse:=fun out x=>by
  rw [Array.toList_push,List.reverse_append];rfl
 have OQ:∀ (out d:Array Keyed) i n,(out ++ (d.extract i n).reverse).toList.reverse = (d.toList.take n).drop i ++ out.toList.reverse:=fun out d i n=>by
  rw [Array.toList_append,Array.toList_reverse,List.reverse_append,List.reverse_reverse,zy]
 have L6:∀ g,PyProof.Rows.kindOf (Gs st g) = κ:=fun _=>hk
 have OL:a.toList.take a.size = a.toList:=List.take_of_length_le (by rw [Array.length_toList];exact Nat.le_refl _);have OK:b.toList.take b.size = b.toList:=List.take_of_length_le (by rw [Array.length_toList];exact Nat.le_refl _);unfold Nd
 delta mergeHi
 lcg_src;refine wpS_bind (jd ?_)
 (lcg_src;lcg_sub;lcg_sub;lcg_sub;lcg_sub;lcg_sub)
 obtain ⟨a0,TQ,Xn⟩:=jf (a:=a) na (Nat.le_refl _);refine wpS_bind (aM TQ ?_)
 (lcg_src;lcg_sub)
 have i1:HI M c all (a.toList.take (a.size - 1)) (b.toList.take b.size) (#[a0]:Array Keyed).toList.reverse:=by
  have:=HI.takeA (out:=[]) (A1:=a.toList.take (a.size - 1)) (A2:=[a0]) (B:=b.toList) (by rw [<- Xn,OL];exact h) fun x hx y hy=>by
   rw [List.mem_singleton.mp hy];exact hl x hx a0 TQ
  rw [OK];exact this
 refine ar (fun e1=>?_) fun e1=>?_
 ·have:=r8 i1 (eq_of_beq e1);exact wpS_pure (q _ (gallopOf st) this.1 this.2)
 have e1:a.size - 1 ≠ 0:=by simpa using e1
 refine ar (fun e2=>?_) fun e2=>?_
 ·have:=uo i1 (eq_of_beq e2);exact wpS_pure (q _ (gallopOf st) this.1 this.2)
 have e2:b.size ≠ 1:=by simpa using e2
 refine wpS_bind (wpS_get ?_)
 (lcg_src;lcg_sub)
 refine wpS_bind ?_;rw [range_list];refine wpS_mono (Q:=fun (r:Option (Array Keyed) × Nat × Nat × Array Keyed × Nat) aO=>∃ out g,r.1 = some out/\aO = Gs st g/\out.toList.Perm all/\gw c out.toList)
  (cj (fun k (r:Option (Array Keyed) × Nat × Nat × Array Keyed × Nat) aO=>∃ g,aO = Gs st g/\r.1 = none/\HI M c all (a.toList.take r.2.1) (b.toList.take r.2.2.1) r.2.2.2.1.toList.reverse/\0 < r.2.1/\r.2.1 < a.size/\1 < r.2.2.1/\r.2.2.1 <= b.size/\k = r.2.1 + r.2.2.1) ?_ _ (a.size - 1 + b.size) _ _ (by rw [List.length_range'];omega) ⟨gallopOf st,rfl,rfl,i1,by dsimp only;omega,by dsimp only;omega,by dsimp only;omega,by dsimp only;omega,rfl⟩) ?_
 ·rintro _ k ⟨r0,na,nb,out,mg⟩ aO ⟨g,rfl,rfl,i2,xE,uR,Bd,rS,yz⟩;dsimp only at i2 xE uR Bd rS yz
  (lcg_src;lcg_sub;lcg_sub;lcg_sub;lcg_sub;lcg_sub;lcg_sub;lcg_sub;lcg_sub;lcg_sub)
  refine wpS_bind ?_;rw [range_list];refine wpS_mono (Q:=fun (r:Option (Array Keyed) × Nat × Nat × Array Keyed × Nat × Nat) aO=>aO = Gs st g/\((∃ out,r.1 = some out/\out.toList.Perm all/\gw c out.toList) \/ (r.1 = none/\HI M c all (a.toList.take r.2.1) (b.toList.take r.2.2.1) r.2.2.2.1.toList.reverse/\0 < r.2.1/\r.2.1 < a.size/\1 < r.2.2.1/\r.2.2.1 <= b.size/\r.2.1 + r.2.2.1 < k)))
   (cj (fun k' (r:Option (Array Keyed) × Nat × Nat × Array Keyed × Nat × Nat) aO=>aO = Gs st g/\r.1 = none/\HI M c all (a.toList.take r.2.1) (b.toList.take r.2.2.1) r.2.2.2.1.toList.reverse/\0 < r.2.1/\r.2.1 < a.size/\1 < r.2.2.1/\r.2.2.1 <= b.size/\k' = r.2.1 + r.2.2.1/\k' <= k) ?_ _ k _ _ ?_ ⟨rfl,rfl,i2,xE,uR,Bd,rS,yz,Nat.le_refl _⟩) ?_
  ·rintro _ k' ⟨r0,na,nb,out,ac,bc⟩ aO ⟨rfl,rfl,i3,xE,uR,Bd,rS,nJ,Rp⟩;dsimp only at i3 xE uR Bd rS nJ
   (lcg_src;lcg_sub;lcg_sub;lcg_sub;lcg_sub;lcg_sub;lcg_sub;lcg_sub;lcg_sub;lcg_sub)
   obtain ⟨y,hy,dy⟩:=jf (a:=b) (n:=nb) (by omega) rS;obtain ⟨x,hx,dx⟩:=jf (a:=a) (n:=na) xE (by omega);have MO:y ∈ b.toList.take nb:=by rw [dy];simp
   have Fg:x ∈ a.toList.take na:=by rw [dx];simp
   have my:M y:=i3.memB MO;have mx:M x:=i3.memA Fg;refine wpS_bind (aM hy (wpS_bind (aM hx (wpS_bind (uZ L my mx (L6 g) ?_)))));lcg_src
   cases e:c y x with
   | true =>
    refine ar (fun _=>?_) fun z=>absurd rfl z
    (lcg_src;lcg_sub)
    refine wpS_bind (aM hx ?_)
    (lcg_src;lcg_sub;lcg_sub;lcg_sub)
    have i4:HI M c all (a.toList.take (na - 1)) (b.toList.take nb) (out.push x).toList.reverse:=by
     rw [zA];rw [dx] at i3;refine HI.takeA (A2:=[x]) i3 fun z hz v hv=>?_
     rw [List.mem_singleton.mp hv];rw [dy] at hz i3;exact iM L i3.sb my mx (fun z hz=>i3.memB (List.mem_append_left _ hz)) e z hz
    refine ar (fun e1=>wpS_pure ⟨rfl,.inl ⟨_,rfl,r8 i4 (eq_of_beq e1)⟩⟩) fun e1=>?_
    have e1:na - 1 ≠ 0:=by simpa using e1
    refine ar (fun _=>wpS_pure ⟨rfl,.inr ⟨rfl,i4,by dsimp only;omega,by dsimp only;omega,by dsimp only;omega,by dsimp only;omega,by dsimp only;omega⟩⟩) fun _=>?_
    exact wpS_pure ⟨_,show na - 1 + nb < k' by omega,rfl,rfl,i4,by dsimp only;omega,by dsimp only;omega,by dsimp only;omega,by dsimp only;omega,rfl,by omega⟩
   | false =>
    refine ar (fun z=>nomatch z) fun _=>?_
    (lcg_src;lcg_sub)
    refine wpS_bind (aM hy ?_)
    (lcg_src;lcg_sub;lcg_sub;lcg_sub)
    have e':c x y = true:=L.tot _ _ my mx (fun z=>i3.ne Fg MO z.symm) e
    have i4:HI M c all (a.toList.take na) (b.toList.take (nb - 1)) (out.push y).toList.reverse:=by
     rw [zA];rw [dy] at i3;refine HI.takeB (B2:=[y]) i3 fun z hz v hv=>?_
     rw [List.mem_singleton.mp hv];rw [dx] at hz i3;exact iM L i3.sa mx my (fun z hz=>i3.memA (List.mem_append_left _ hz)) e' z hz
    refine ar (fun e1=>wpS_pure ⟨rfl,.inl ⟨_,rfl,uo i4 (eq_of_beq e1)⟩⟩) fun e1=>?_
    have e1:nb - 1 ≠ 1:=by simpa using e1
    refine ar (fun _=>wpS_pure ⟨rfl,.inr ⟨rfl,i4,by dsimp only;omega,by dsimp only;omega,by dsimp only;omega,by dsimp only;omega,by dsimp only;omega⟩⟩) fun _=>?_
    exact wpS_pure ⟨_,show na + (nb - 1) < k' by omega,rfl,rfl,i4,by dsimp only;omega,by dsimp only;omega,by dsimp only;omega,by dsimp only;omega,rfl,by omega⟩
  ·rw [List.length_range'];omega
  ·rintro ⟨r0,na,nb,out,ac,bc⟩ aO ⟨rfl,⟨o,rfl,p1,p2⟩ | ⟨rfl,i3,xE,uR,Bd,rS,nJ⟩⟩
   ·exact wpS_pure ⟨o,g,rfl,rfl,p1,p2⟩
   dsimp only at i3 xE uR Bd rS nJ
   (lcg_src;lcg_sub;lcg_sub;lcg_sub;lcg_sub;lcg_sub;lcg_sub;lcg_sub;lcg_sub;lcg_sub;lcg_sub)
   refine wpS_bind (jd ?_)
   (lcg_src;lcg_sub)
   refine wpS_bind ?_;rw [range_list];refine wpS_mono (Q:=Qc M c all a b st k) (cj (Qb M c all a b st k) ?_ _ _ _ _ ?_ ⟨g,rfl,rfl,i3,xE,uR,Bd,rS,rfl,nJ⟩) ?_
   ·rintro _ k' ⟨r0,na,nb,out,mg,ac,bc⟩ aO ⟨g,rfl,rfl,i3,xE,uR,Bd,rS,nJ,Rp⟩;dsimp only at i3 xE uR Bd rS nJ
    (lcg_src;lcg_sub;lcg_sub;lcg_sub;lcg_sub;lcg_sub;lcg_sub;lcg_sub;lcg_sub;lcg_sub;lcg_sub;lcg_sub)
    (extract_lets +onlyGivenNames -underBinder -merge -useContext J1;clear_value (RS:J1 = _))
    have j1:∀ Hz,wpS (model prog w) A E s (J1 () Hz) (E4 (Qc M c all a b st k) fun r aO=>∃ v9,v9 < k'/\Qb M c all a b st k v9 r aO) (Gs st g):=fun Hz=>by
     rw [RS];lcg_src;refine wpS_bind (sN ?_);obtain ⟨y,hy,dy⟩:=jf (a:=b) (n:=nb) (by omega) rS;have MO:y ∈ b.toList.take nb:=by rw [dy];simp
     have my:M y:=i3.memB MO;refine wpS_bind (aM hy ?_);refine wpS_bind (lP L (by omega) (by rw [List.drop_zero];exact i3.sa) (fun x hx=>i3.memA (by rw [List.drop_zero] at hx;exact hx)) my (by omega) (L6 _) fun k1 Jz f1 f2=>?_)
     rw [List.drop_zero] at f1 f2
     (lcg_src;lcg_sub;lcg_sub)
     have i4:HI M c all (a.toList.take k1) (b.toList.take nb) ((a.toList.take na).drop k1 ++ out.toList.reverse):=by
      rw [nQ Jz] at i3;refine i3.takeA fun z hz v hv=>?_
      have mv:M v:=i3.memA (List.mem_append_right _ hv);rw [dy] at hz i3;exact iM L i3.sb my mv (fun z hz=>i3.memB (List.mem_append_left _ hz)) (f2 v hv) z hz
     (extract_lets +onlyGivenNames -underBinder -merge -useContext J2;clear_value (Mg:J2 = _))
     have j2:∀ (na2:Nat) (lC:Array Keyed),na2 <= na->HI M c all (a.toList.take na2) (b.toList.take nb) lC.toList.reverse->(∀ x ∈ a.toList.take na2,c y x = false)->0 < na2->wpS (model prog w) A E s (J2 () na2 lC) (E4 (Qc M c all a b st k) fun r aO=>∃ v9,v9 < k'/\Qb M c all a b st k v9 r aO) (Gs st Hz):=fun na2 lC hle i5 f3 Jy=>by
      rw [Mg]
      (lcg_src;lcg_sub)
      refine wpS_bind (aM hy ?_)
      (lcg_src;lcg_sub)
      have i6:HI M c all (a.toList.take na2) (b.toList.take (nb - 1)) (lC.push y).toList.reverse:=by
       rw [zA];rw [dy] at i5;refine HI.takeB (B2:=[y]) i5 fun z hz v hv=>?_
       rw [List.mem_singleton.mp hv];exact L.tot _ _ my (i5.memA hz) (fun e=>i5.ne hz (List.mem_append_right _ List.mem_cons_self) e.symm) (f3 z hz)
      refine ar (fun e1=>wpS_pure ⟨_,rfl,.inl ⟨_,rfl,uo i6 (eq_of_beq e1)⟩⟩) fun e1=>?_
      have e1:nb - 1 ≠ 1:=by simpa using e1
      obtain ⟨x,hx,dx⟩:=jf (a:=a) (n:=na2) Jy (by omega);have Fg:x ∈ a.toList.take na2:=by rw [dx];simp
      have mx:M x:=i6.memA Fg;refine wpS_bind (aM hx ?_);refine wpS_bind (oQ L (by omega) (by rw [List.drop_zero];exact i6.sb) (fun x hx=>i6.memB (by rw [List.drop_zero] at hx;exact hx)) mx (by omega) (L6 _) fun k2 Ov f4 f5=>?_)
      rw [List.drop_zero] at f4 f5
      (lcg_src;lcg_sub;lcg_sub)
      have i7:HI M c all (a.toList.take na2) (b.toList.take k2) ((b.toList.take (nb - 1)).drop k2 ++ (lC.push y).toList.reverse):=by
       rw [nQ Ov] at i6;refine i6.takeB fun z hz v hv=>?_
       have mv:M v:=i6.memB (List.mem_append_right _ hv);have e':=L.tot _ _ mv mx (fun e=>i6.ne Fg (List.mem_append_right _ hv) e.symm) (f5 v hv)
       rw [dx] at hz i6;exact iM L i6.sa mx mv (fun z hz=>i6.memA (List.mem_append_left _ hz)) e' z hz
      (extract_lets +onlyGivenNames -underBinder -merge -useContext J3;clear_value (OH:J3 = _))
      have j3:∀ (Jj:Nat) (tH:Array Keyed),Jj <= nb - 1->HI M c all (a.toList.take na2) (b.toList.take Jj) tH.toList.reverse->(∀ z ∈ b.toList.take Jj,c z x = true)->1 < Jj->wpS (model prog w) A E s (J3 () Jj tH) (E4 (Qc M c all a b st k) fun r aO=>∃ v9,v9 < k'/\Qb M c all a b st k v9 r aO) (Gs st Hz):=fun Jj tH Ro i8 f6 RJ=>by
       rw [OH]
       (lcg_src;lcg_sub)
       refine wpS_bind (aM hx ?_)
       (lcg_src;lcg_sub)
       have i9:HI M c all (a.toList.take (na2 - 1)) (b.toList.take Jj) (tH.push x).toList.reverse:=by
        rw [zA];rw [dx] at i8;refine HI.takeA (A2:=[x]) i8 fun z hz v hv=>?_
        rw [List.mem_singleton.mp hv];exact f6 z hz
       refine ar (fun e1=>wpS_pure ⟨_,rfl,.inl ⟨_,rfl,r8 i9 (eq_of_beq e1)⟩⟩) fun e1=>?_
       have e1:na2 - 1 ≠ 0:=by simpa using e1
       refine ar (fun _=>wpS_pure ⟨_,rfl,.inr ⟨rfl,i9,by dsimp only;omega,by dsimp only;omega,by dsimp only;omega,by dsimp only;omega,by dsimp only;omega⟩⟩) fun _=>?_
       exact wpS_pure ⟨_,show na2 - 1 + Jj < k' by omega,_,rfl,rfl,i9,by dsimp only;omega,by dsimp only;omega,by dsimp only;omega,by dsimp only;omega,rfl,by omega⟩
      refine ar (fun g1=>?_) fun g1=>?_
      ·(lcg_src;lcg_sub;lcg_sub)
       rw [<- OQ] at i7;refine ar (fun e1=>wpS_pure ⟨_,rfl,.inl ⟨_,rfl,uo i7 (eq_of_beq e1)⟩⟩) fun e1=>?_
       have e1:k2 ≠ 1:=by simpa using e1
       refine ar (fun e2=>wpS_pure ⟨_,rfl,.inl ⟨_,rfl,rZ i7 (eq_of_beq e2)⟩⟩) fun e2=>?_
       have e2:k2 ≠ 0:=by simpa using e2
       exact j3 _ _ (by omega) i7 f4 (by omega)
      ·obtain rfl:k2 = nb - 1:=by omega
       exact j3 _ _ (Nat.le_refl _) i6 f4 (by omega)
     refine ar (fun g1=>?_) fun g1=>?_
     ·(lcg_src;lcg_sub;lcg_sub)
      rw [<- OQ] at i4;refine ar (fun e1=>wpS_pure ⟨_,rfl,.inl ⟨_,rfl,r8 i4 (eq_of_beq e1)⟩⟩) fun e1=>?_
      have e1:k1 ≠ 0:=by simpa using e1
      exact j2 _ _ (by omega) i4 f1 (by omega)
     ·obtain rfl:k1 = na:=by omega
      exact j2 _ _ (Nat.le_refl _) i3 f1 xE
    exact ar (fun _=>j1 _) fun _=>j1 _
   ·rw [List.length_range'];dsimp only;omega
   ·rintro ⟨r0,na,nb,out,mg,ac,bc⟩ aO ⟨g,rfl,⟨o,rfl,p1,p2⟩ | ⟨rfl,i3,xE,uR,Bd,rS,nJ⟩⟩
    ·exact wpS_pure ⟨o,g,rfl,rfl,p1,p2⟩
    ·dsimp only at i3 xE uR Bd rS nJ
     (lcg_src;lcg_sub;lcg_sub;lcg_sub;lcg_sub;lcg_sub;lcg_sub;lcg_sub;lcg_sub;lcg_sub;lcg_sub)
     refine wpS_bind (sN ?_);exact wpS_pure ⟨_,nJ,_,rfl,rfl,i3,xE,uR,Bd,rS,rfl⟩
 ·rintro ⟨r0,na,nb,out,mg⟩ aO ⟨o,g,rfl,rfl,p1,p2⟩;exact wpS_pure (q o g p1 p2)
end
end TS
namespace TS
local macro_rules | `(tactic| lcg_src) => `(tactic| try dsimp (zeta := false) (zetaUnused := false) only)
local macro_rules | `(tactic| lcg_sub) => `(tactic| (extract_lets +onlyGivenNames -underBinder -merge -useContext zz; subst zz; try dsimp (zeta := false) (zetaUnused := false) only))
open PySem PySem.W PyProof.Rows
local macro_rules | `(term| type_of% $n:ident) => return Lean.mkIdent (Lean.mkPrivateNameCore `PySem.Builtin.List.W1All (`PySem.Builtin ++ n.getId))
local macro_rules | `(tactic| delta $n:ident) => if Lean.isPrivateName n.getId then Lean.Macro.throwUnsupported else `(tactic| delta $(Lean.mkIdent (Lean.mkPrivateNameCore `PySem.Builtin.List.W1All (`PySem.Builtin ++ n.getId))):ident)
section
variable {prog:Program} {w:World} {A:Around} {s:Shared} {E:Value->Shared->Prop} {κ:SortKind} {M:Keyed->Prop} {c:Keyed->Keyed->Bool}
abbrev Ms (κ:SortKind) (arr:Array Keyed) (p:Array (Nat × Nat × Nat)) (g:Nat):SortSt:=SortSt.mk' κ arr p g none
theorem JL {st aO:SortSt} {Q:PUnit->SortSt->Prop} (q:Q ⟨⟩ aO):wpS (model prog w) A E s (set aO) Q st:=by
 have:(set aO:StateT SortSt Sem PUnit) = modify fun _=>aO:=rfl
 rw [this];exact wpS_modify q
theorem za {sa : Nat} : ∀ (l : List Keyed) (n : Nat) (arr : Array Keyed), sa + n + l.length <= arr.size ->
    ((l.zipIdx n).foldl (fun (a:Array Keyed) (x:Keyed × Nat)=>match x with | (p,j)=>a.setIfInBounds (sa + j) p) arr).toList = arr.toList.take (sa + n) ++ l ++ arr.toList.drop (sa + n + l.length)
 | [],n,arr,h=>by
  rw [List.zipIdx_nil,List.foldl_nil,List.append_nil,List.length_nil,Nat.add_zero,List.take_append_drop]
 | x :: l,n,arr,h=>by
  rw [List.length_cons] at h;rw [List.zipIdx_cons,List.foldl_cons];dsimp only;rw [za l (n + 1) _ (by rw [Array.size_setIfInBounds];omega),Array.toList_setIfInBounds];have hl:sa + n < arr.toList.length:=by rw [Array.length_toList];omega
  rw [show sa + (n + 1) = sa + n + 1 by omega,List.take_succ_eq_append_getElem (by rw [List.length_set];exact hl),List.getElem_set_self,List.take_set_of_le (Nat.le_refl _),List.length_cons,List.drop_set_of_lt (by omega),show sa + n + 1 + l.length = sa + n + (l.length + 1) by omega,List.append_assoc,List.append_assoc,List.append_assoc]
  rfl
theorem xK (L : uT prog w A s κ M c) {arr : Array Keyed} {pend : Array (Nat × Nat × Nat)} {g i sa na p1 sb nb p2 : Nat} {Q : Bool -> SortSt -> Prop} (h1 : pend[i]? = some (sa, na, p1)) (h2 : pend[i + 1]? = some (sb, nb, p2)) (PL : sb = sa + na)
    (hsz:sb + nb <= arr.size) (VI:0 < na) (Y0:0 < nb) (sA:gw c ((arr.toList.drop sa).take na)) (sB:gw c ((arr.toList.drop sb).take nb)) (mm:∀ x ∈ arr.toList,M x) (nd:arr.toList.Nodup)
    (q:∀ br g' m,br.toList = arr.toList.take sa ++ m ++ arr.toList.drop (sb + nb)->m.Perm ((arr.toList.drop sa).take (na + nb))->gw c m->Q true (Ms κ br ((pend.setIfInBounds i (sa,na + nb,p1)).eraseIdxIfInBounds (i + 1)) g')) :
    wpS (model prog w) A E s (mergeAt' i) Q (Ms κ arr pend g):=by
 have NW:((arr.toList.drop sa).take na).length = na:=by rw [List.length_take,List.length_drop,Array.length_toList];omega
 have NV:((arr.toList.drop sb).take nb).length = nb:=by rw [List.length_take,List.length_drop,Array.length_toList];omega
 have Ur:(arr.toList.drop sa).take (na + nb) = (arr.toList.drop sa).take na ++ (arr.toList.drop sb).take nb:=by rw [List.take_add,List.drop_drop,PL]
 have Ij:arr.toList = arr.toList.take sa ++ ((arr.toList.drop sa).take na ++ (arr.toList.drop sb).take nb) ++ arr.toList.drop (sb + nb):=by
  rw [<- Ur,PL,Nat.add_assoc,<- List.drop_drop,List.append_assoc,List.take_append_drop,List.take_append_drop]
 have mA:∀ x ∈ (arr.toList.drop sa).take na,M x:=fun x hx=>mm x (List.mem_of_mem_drop (List.mem_of_mem_take hx))
 have mB:∀ x ∈ (arr.toList.drop sb).take nb,M x:=fun x hx=>mm x (List.mem_of_mem_drop (List.mem_of_mem_take hx))
 have NU:((arr.toList.drop sa).take na ++ (arr.toList.drop sb).take nb).Nodup:=by
  rw [Ij] at nd;exact (List.nodup_append.mp (List.nodup_append.mp nd).1).2.1
 have NT:∀ x ∈ (arr.toList.drop sa).take na,∀ y ∈ (arr.toList.drop sb).take nb,x ≠ y:=fun x hx y hy=>(List.nodup_append.mp NU).2.2 x hx y hy
 have q':∀ br g' m,br.toList = arr.toList.take sa ++ m ++ arr.toList.drop (sb + nb)->m.Perm ((arr.toList.drop sa).take na ++ (arr.toList.drop sb).take nb)->gw c m->Q true (Ms κ br ((pend.setIfInBounds i (sa,na + nb,p1)).eraseIdxIfInBounds (i + 1)) g'):=fun br g' m a1 a2 a3=>q br g' m a1 (by rw [Ur];exact a2) a3
 have M1:sb < arr.size:=by omega
 obtain ⟨b0,M1,P1⟩:=jt M1;have Pm:(arr.toList.drop sb).take nb = b0 :: (arr.toList.drop (sb + 1)).take (nb - 1):=by
  rw [P1,show nb = (nb - 1) + 1 by omega,List.take_succ_cons];rfl
 have QN:M b0:=mB _ (by rw [Pm];exact List.mem_cons_self);generalize hA:(arr.toList.drop sa).take na = lA at *;generalize hB:(arr.toList.drop sb).take nb = lB at *;have same:(∀ x ∈ lA,∀ y ∈ lB,c x y = true)->Q true (Ms κ arr ((pend.setIfInBounds i (sa,na + nb,p1)).eraseIdxIfInBounds (i + 1)) g):=fun eR=>q' arr g (lA ++ lB) Ij (List.Perm.refl _) (List.pairwise_append.mpr ⟨sA,sB,eR⟩)
 show wpS (model prog w) A E s ((type_of% mergeAt) i) Q (Ms κ arr pend g)
 delta mergeAt
 lcg_src;refine wpS_bind (wpS_get ?_);lcg_src;rw [show (pendingOf (Ms κ arr pend g))[i]? = some (sa,na,p1) from h1,show (pendingOf (Ms κ arr pend g))[i + 1]? = some (sb,nb,p2) from h2];lcg_src;refine wpS_bind (JL ?_);refine wpS_bind (aM M1 ?_);refine wpS_bind (lP L (by show sa + na <= arr.size;omega) (by rw [hA];exact sA) (by rw [hA];exact mA) QN VI rfl fun k1 Jz f1 f2=>?_)
 rw [hA] at f2;have f1:∀ x ∈ lA.take k1,c b0 x = false:=fun x hx=>f1 x (by rw [<- hA,List.take_take,Nat.min_eq_left Jz] at hx;exact hx)
 lcg_src;have VL:∀ x,M x->c x b0 = true->∀ y ∈ lB,c x y = true:=fun x mx e=>by
  rw [Pm] at sB mB ⊢;exact iN L sB QN mx (fun z hz=>mB z (List.mem_cons_of_mem _ hz)) e
 have RM:b0 ∈ lB:=by rw [Pm];exact List.mem_cons_self
 have Up:∀ x ∈ lA.take k1,∀ y ∈ lB,c x y = true:=fun x hx=>by
  have Ea:=List.mem_of_mem_take hx;exact VL x (mA x Ea) (L.tot _ _ QN (mA x Ea) (fun e=>NT x Ea b0 RM e.symm) (f1 x hx))
 refine ar (fun e1=>?_) fun e1=>?_
 ·have e1:na - k1 = 0:=eq_of_beq e1;refine wpS_pure (same fun x hx y hy=>Up x ?_ y hy)
  rw [List.take_of_length_le (by omega)];exact hx
 have e1:na - k1 ≠ 0:=by simpa using e1
 have eA:(arr.extract (sa + k1) sb).toList = lA.drop k1:=by
  rw [zy,<- hA,List.drop_take,List.drop_take,List.drop_drop]
  congr 1
  omega
 have Sz:(arr.extract (sa + k1) sb).size = na - k1:=by rw [<- Array.length_toList,eA,List.length_drop,NW]
 obtain ⟨x,hx,dx⟩:=jf (a:=arr.extract (sa + k1) sb) (n:=na - k1) (by omega) (by omega);have Ea:arr[sa + k1 + (na - k1) - 1]? = some x:=by
  rw [Array.getElem?_extract,if_pos (by omega)] at hx;rw [show sa + k1 + (na - k1) - 1 = sa + k1 + (na - k1 - 1) by omega];exact hx
 have Se:lA.drop k1 = (lA.drop k1).take (na - k1 - 1) ++ [x]:=by
  rw [eA,List.take_of_length_le (by rw [List.length_drop];omega)] at dx;exact dx
 have Fg:x ∈ lA:=List.mem_of_mem_drop (i:=k1) (by rw [Se];simp);have mx:M x:=mA x Fg;have Va:∀ z ∈ lA,∀ y,M y->c x y = true->c z y = true:=fun z hz y my e=>by
  have e2:lA = (lA.take k1 ++ (lA.drop k1).take (na - k1 - 1)) ++ [x]:=by
   rw [List.append_assoc,<- Se,List.take_append_drop]
  rw [e2] at hz sA mA;exact iM L sA mx my (fun z hz=>mA z (List.mem_append_left _ hz)) e z hz
 refine wpS_bind (aM Ea ?_);refine wpS_bind (oQ L hsz (by rw [hB];exact sB) (by rw [hB];exact mB) mx (by omega) rfl fun k2 yz f3 f4=>?_)
 rw [hB] at f4;have f3:∀ z ∈ lB.take k2,c z x = true:=fun z hz=>f3 z (by rw [<- hB,List.take_take,Nat.min_eq_left yz] at hz;exact hz)
 have R7:∀ y ∈ lB.drop k2,∀ z ∈ lA,c z y = true:=fun y hy z hz=>by
  have MP:=List.mem_of_mem_drop hy;exact Va z hz y (mB y MP) (L.tot _ _ (mB y MP) mx (fun e=>NT x Fg y MP e.symm) (f4 y hy))
 lcg_src;refine ar (fun e2=>?_) fun e2=>?_
 ·have e2:k2 = 0:=eq_of_beq e2;refine wpS_pure (same fun x hx y hy=>R7 y ?_ x hx)
  rw [e2,List.drop_zero];exact hy
 have e2:k2 ≠ 0:=by simpa using e2
 (lcg_src;lcg_sub;lcg_sub)
 (extract_lets +onlyGivenNames -underBinder -merge -useContext J;clear_value (hJ:J = _))
 have eB:(arr.extract sb (sb + k2)).toList = lB.take k2:=by
  rw [oW,<- hB,List.take_take,Nat.min_eq_left yz]
 have YT:(arr.extract sb (sb + k2)).size = k2:=by rw [<- Array.length_toList,eB,List.length_take,NV];omega
 have j:∀ (r:Array Keyed) g',r.toList.Perm (lA.drop k1 ++ lB.take k2)->gw c r.toList->wpS (model prog w) A E s (J r) Q (Gs (Ms κ arr ((pend.setIfInBounds i (sa,na + nb,p1)).eraseIdxIfInBounds (i + 1)) g) g'):=fun r g' pr sr=>by
  rw [hJ];lcg_src;refine wpS_bind (wpS_modify (wpS_bind (wpS_get (wpS_pure ?_))));have lr:r.toList.length = na - k1 + k2:=by rw [pr.length_eq,List.length_append,List.length_drop,List.length_take,NW,NV];omega
  refine q' _ g' (lA.take k1 ++ r.toList ++ lB.drop k2) ((za r.toList 0 arr (by omega)).trans ?_) ?_ ?_
  ·have h3:arr.toList.take (sa + k1 + 0) = arr.toList.take sa ++ lA.take k1:=by
    rw [Nat.add_zero,List.take_add,<- hA,List.take_take,Nat.min_eq_left Jz]
   have h4:arr.toList.drop (sa + k1 + 0 + r.toList.length) = lB.drop k2 ++ arr.toList.drop (sb + nb):=by
    rw [lr,show sa + k1 + 0 + (na - k1 + k2) = sb + k2 by omega,<- hB,List.drop_take];rw [show arr.toList.drop (sb + nb) = (arr.toList.drop (sb + k2)).drop (nb - k2) by rw [List.drop_drop];congr 1;omega,List.drop_drop,List.take_append_drop]
   rw [h3,h4];simp only [List.append_assoc]
  ·have:lA ++ lB = lA.take k1 ++ (lA.drop k1 ++ lB.take k2) ++ lB.drop k2:=by
    rw [<- List.append_assoc,List.take_append_drop,List.append_assoc,List.take_append_drop]
   rw [this];exact List.Perm.append_right _ (List.Perm.append_left _ pr)
  ·have Vn:gw c (lA.take k1 ++ lA.drop k1):=by rw [List.take_append_drop];exact sA
   have Vm:gw c (lB.take k2 ++ lB.drop k2):=by rw [List.take_append_drop];exact sB
   have pA:=List.pairwise_append.mp Vn;have pB:=List.pairwise_append.mp Vm;have m1:∀ x ∈ lA.take k1,∀ y ∈ r.toList,c x y = true:=fun x hx y hy=>by
    rcases List.mem_append.mp (pr.mem_iff.mp hy) with hy | hy
    ·exact pA.2.2 x hx y hy
    ·exact Up x hx y (List.mem_of_mem_take hy)
   have m2:∀ x ∈ r.toList,∀ y ∈ lB.drop k2,c x y = true:=fun x hx y hy=>by
    rcases List.mem_append.mp (pr.mem_iff.mp hx) with hx | hx
    ·exact R7 y hy x (List.mem_of_mem_drop hx)
    ·exact pB.2.2 x hx y hy
   refine List.pairwise_append.mpr ⟨List.pairwise_append.mpr ⟨pA.1,sr,m1⟩,pB.2.1,fun x hx y hy=>?_⟩
   rcases List.mem_append.mp hx with hx | hx
   ·exact R7 y hy x (List.mem_of_mem_take hx)
   ·exact m2 x hx y hy
 have SF:gw c (lA.drop k1):=sA.sublist (List.drop_sublist _ _);have FL:gw c (lB.take k2):=sB.sublist (List.take_sublist _ _);have Ta:∀ x ∈ lA.drop k1 ++ lB.take k2,M x:=fun x hx=>by
  rcases List.mem_append.mp hx with hx | hx
  ·exact mA x (List.mem_of_mem_drop hx)
  ·exact mB x (List.mem_of_mem_take hx)
 have S9:(lA.drop k1 ++ lB.take k2).Nodup:=NU.sublist ((List.drop_sublist _ _).append (List.take_sublist _ _));have tb:lB.take k2 = b0 :: ((arr.toList.drop (sb + 1)).take (nb - 1)).take (k2 - 1):=by
  rw [Pm,show k2 = (k2 - 1) + 1 by omega,List.take_succ_cons];rfl
 refine ar (fun g1=>?_) fun g1=>?_
 ·refine wpS_bind (Na L (all:=lA.drop k1 ++ lB.take k2) (by rw [eA,eB];exact ⟨List.Perm.refl _,List.Pairwise.nil,SF,FL,fun _ z=>(nomatch z),Ta,S9⟩) (show 0 < (arr.extract (sa + k1) sb).size by omega) (show 0 < (arr.extract sb (sb + k2)).size by omega) (fun z hz y hy=>?_) (fun z hz y hy=>?_) rfl fun r g' p1 p2=>?_)
  ·have:z = b0:=by
    rw [<- Array.getElem?_toList,eB,tb] at hz;exact (Option.some.inj hz).symm
   rw [this];exact f2 y (by rw [eA] at hy;exact hy)
  ·rw [eB] at hz;rw [Sz,eA,Se] at hy;have:y = x:=by
    rw [List.drop_append_of_le_length (by rw [List.length_take,List.length_drop];omega),List.drop_of_length_le (by rw [List.length_take];omega)] at hy;simpa using hy
   rw [this];exact f3 z hz
  ·exact j r g' p1 p2
 ·refine wpS_bind (Nb L (all:=lA.drop k1 ++ lB.take k2) (by rw [eA,eB];exact ⟨by rw [List.append_nil],List.Pairwise.nil,SF,FL,fun _ _ _ z=>(nomatch z),Ta,S9⟩) (show 0 < (arr.extract (sa + k1) sb).size by omega) (show 0 < (arr.extract sb (sb + k2)).size by omega) (fun z hz y hy=>?_) (fun z hz y hy=>?_) rfl fun r g' p1 p2=>?_)
  ·have:z = b0:=by
    rw [eB,tb] at hz;simpa using hz
   rw [this];exact f2 y (by rw [eA] at hy;exact hy)
  ·rw [eB] at hz;rw [Sz,hx] at hy
   cases hy
   exact f3 z hz
  ·exact j r g' p1 p2
end
end TS
namespace TS
variable {arr a b:Array Keyed} {i j lo hi n:Nat} {c:Keyed->Keyed->Bool}
local macro_rules | `(tactic| lcg_src) => `(tactic| try dsimp (zeta := false) (zetaUnused := false) only)
local macro_rules | `(tactic| lcg_sub) => `(tactic| (extract_lets +onlyGivenNames -underBinder -merge -useContext zz; subst zz; try dsimp (zeta := false) (zetaUnused := false) only))
open PySem PySem.W PyProof.Rows
abbrev ka (arr:Array Keyed) (i:Nat):Keyed:=arr.getD i (Value.none,Value.none)
theorem oB (h:i < arr.size):arr[i]? = some (ka arr i):=by
 unfold ka;rw [Array.getD_eq_getD_getElem?,Array.getElem?_eq_getElem h];rfl
theorem mq {br:Array Keyed} (h:br[i]? = arr[j]?):ka br i = ka arr j:=by
 unfold ka;rw [Array.getD_eq_getD_getElem?,Array.getD_eq_getD_getElem?,h]
structure Gd (M:Keyed->Prop) (arr:Array Keyed):Prop where
 mm:∀ x ∈ arr.toList,M x
 nd:arr.toList.Nodup
theorem Gd.perm {M:Keyed->Prop} {br:Array Keyed} (h:Gd M arr) (p:br.Perm arr):Gd M br:=by
 have p':=Array.perm_iff_toList_perm.mp p;exact ⟨fun x hx=>h.mm x (p'.mem_iff.mp hx),p'.nodup_iff.mpr h.nd⟩
theorem Gd.at_ {M:Keyed->Prop} (h:Gd M arr) (hi:i < arr.size):M (ka arr i):=by
 have:=oB hi;rw [<- Array.getElem?_toList] at this;exact h.mm _ (List.mem_of_getElem? this)
theorem Gd.ne {M:Keyed->Prop} (h:Gd M arr) (hi:i < arr.size) (hj:j < arr.size) (wo:i ≠ j):ka arr i ≠ ka arr j:=by
 have h1:=oB hi;have h2:=oB hj;rw [<- Array.getElem?_toList] at h1 h2;obtain ⟨l1,e1⟩:=List.getElem?_eq_some_iff.mp h1;obtain ⟨l2,e2⟩:=List.getElem?_eq_some_iff.mp h2;rw [<- e1,<- e2];have q:=List.pairwise_iff_getElem.mp h.nd
 by_cases z:i < j
 ·exact q i j l1 l2 z
 ·exact fun e=>q j i l2 l1 (by omega) e.symm
structure Loc (arr br:Array Keyed) (lo hi:Nat):Prop where
 pm:br.Perm arr
 out:∀ i,i < lo \/ hi <= i->br[i]? = arr[i]?
theorem Loc.refl:Loc arr arr lo hi:=⟨Array.Perm.refl _,fun _ _=>rfl⟩
theorem Loc.trans {d:Array Keyed} (h:Loc a b lo hi) (h':Loc b d lo hi):Loc a d lo hi:=⟨h'.pm.trans h.pm,fun i z=>(h'.out i z).trans (h.out i z)⟩
theorem Loc.mono {MV:Nat} (h:Loc a b lo hi) (z:hi <= MV):Loc a b lo MV:=⟨h.pm,fun i y=>h.out i (by omega)⟩
theorem Loc.size (h:Loc a b lo hi):b.size = a.size:=h.pm.size_eq
def Ups (c:Keyed->Keyed->Bool) (arr:Array Keyed) (lo n:Nat):Prop:=∀ i j,i < j->j < n->c (ka arr (lo + i)) (ka arr (lo + j)) = true
def Dns (c:Keyed->Keyed->Bool) (arr:Array Keyed) (lo n:Nat):Prop:=∀ i j,i < j->j < n->c (ka arr (lo + j)) (ka arr (lo + i)) = true
theorem Ups.srt (h:Ups c arr lo n) (hn:lo + n <= arr.size):gw c ((arr.toList.drop lo).take n):=by
 have hl:((arr.toList.drop lo).take n).length = n:=by rw [List.length_take,List.length_drop,Array.length_toList];omega
 refine List.pairwise_iff_getElem.mpr fun i j hi hj wo=>?_
 obtain ⟨h1,e1⟩:=seg_at hn (show i < n by omega);obtain ⟨h2,e2⟩:=seg_at hn (show j < n by omega);rw [oB (by omega)] at e1 e2;rw [<- Option.some.inj e1,<- Option.some.inj e2];exact h i j wo (by omega)
theorem Ups.of_srt (hn:lo + n <= arr.size) (h:gw c ((arr.toList.drop lo).take n)):Ups c arr lo n:=fun i j wo hj=>by
 obtain ⟨h1,e1⟩:=seg_at hn (show i < n by omega);obtain ⟨h2,e2⟩:=seg_at hn (show j < n by omega);rw [oB (by omega)] at e1 e2;rw [Option.some.inj e1,Option.some.inj e2];exact List.pairwise_iff_getElem.mp h i j h1 h2 wo
section
variable {prog:Program} {w:World} {A:Around} {s:Shared} {E:Value->Shared->Prop} {κ:SortKind} {M:Keyed->Prop}
theorem je (L:uT prog w A s κ M c) {p:Array (Nat × Nat × Nat)} {g:Nat} (G:Gd M arr) (hi:i < arr.size) (hj:j < arr.size) {Q:Option Bool->SortSt->Prop} (q:Q (some (c (ka arr i) (ka arr j))) (Ms κ arr p g)):wpS (model prog w) A E s (ltAt' i j) Q (Ms κ arr p g):=by
 rw [ltAt'_eq];refine wpS_bind (wpS_get ?_);refine wpS_bind (aM (oB hi) ?_);refine wpS_bind (aM (oB hj) ?_);exact uZ L (G.at_ hi) (G.at_ hj) rfl q
theorem nB {β : Type} {f : Nat -> β -> StateT SortSt Sem (ForInStep β)} {Q : β -> SortSt -> Prop} (I : Nat -> β -> SortSt -> Prop)
    (step:∀ x k b st,I (k + 1) b st->wpS (model prog w) A E s (f x b) (E4 Q fun b' aO=>I k b' aO) st) (fin:∀ b st,I 0 b st->Q b st) :
    ∀ (l:List Nat) (b:β) (st:SortSt),I l.length b st->wpS (model prog w) A E s (forIn l b f) Q st
 | [],b,st,i=>by
  rw [List.forIn_nil];exact wpS_pure (fin b st i)
 | x :: l,b,st,i=>by
  rw [List.forIn_cons];refine wpS_bind (wpS_mono (step x l.length b st i) fun r aO hr=>?_)
  cases r with
  | done b'=>exact wpS_pure hr
  | yield b'=>exact nB I step fin l b' aO hr
theorem Ups.more (L:uT prog w A s κ M c) (G:Gd M arr) (hn:lo + n < arr.size) (h1:1 <= n) (u:Ups c arr lo n) (e:c (ka arr (lo + n - 1)) (ka arr (lo + n)) = true):Ups c arr lo (n + 1):=fun i j wo hj=>by
 by_cases z:j < n
 ·exact u i j wo z
 ·obtain rfl:j = n:=by omega
  by_cases y:i = j - 1
  ·rw [y,show lo + (j - 1) = lo + j - 1 by omega];exact e
  ·refine L.trans _ (ka arr (lo + j - 1)) _ (G.at_ (by omega)) (G.at_ (by omega)) (G.at_ hn) ?_ e;rw [show lo + j - 1 = lo + (j - 1) by omega];exact u i (j - 1) (by omega) (by omega)
theorem Dns.more (L:uT prog w A s κ M c) (G:Gd M arr) (hn:lo + n < arr.size) (h1:1 <= n) (u:Dns c arr lo n) (e:c (ka arr (lo + n)) (ka arr (lo + n - 1)) = true):Dns c arr lo (n + 1):=fun i j wo hj=>by
 by_cases z:j < n
 ·exact u i j wo z
 ·obtain rfl:j = n:=by omega
  by_cases y:i = j - 1
  ·rw [y,show lo + (j - 1) = lo + j - 1 by omega];exact e
  ·refine L.trans _ (ka arr (lo + j - 1)) _ (G.at_ hn) (G.at_ (by omega)) (G.at_ (by omega)) e ?_;rw [show lo + j - 1 = lo + (j - 1) by omega];exact u i (j - 1) (by omega) (by omega)
theorem HC (hn:lo + n <= arr.size):Loc arr (mirror arr lo (lo + n) ((lo + n - lo) / 2)) lo (lo + n):=by
 refine ⟨mirror_perm _ _ _ _,fun i z=>?_⟩;rw [getElem?_mirror_all hn,if_neg (by omega)]
theorem Dns.rev (hn:lo + n <= arr.size) (d:Dns c arr lo n):Ups c (mirror arr lo (lo + n) ((lo + n - lo) / 2)) lo n:=fun i j wo hj=>by
 have e:∀ i,i < n->ka (mirror arr lo (lo + n) ((lo + n - lo) / 2)) (lo + i) = ka arr (lo + (n - 1 - i)):=fun i hi=>mq (by
  rw [getElem?_mirror_all hn,if_pos (by omega)]
  congr 1
  omega)
 rw [e i (by omega),e j hj];exact d _ _ (by omega) (by omega)
theorem BM (L : uT prog w A s κ M c) {p : Array (Nat × Nat × Nat)} {g mZ : Nat} (G : Gd M arr) (hn : lo + mZ <= arr.size) (h1 : 1 <= mZ) {Q : Option Nat -> SortSt -> Prop}
    (q:∀ n br,1 <= n->n <= mZ->Loc arr br lo (lo + n)->Ups c br lo n->Q (some n) (Ms κ br p g)):wpS (model prog w) A E s (countRun' lo mZ) Q (Ms κ arr p g):=by
 rw [countRun'_eq]
 (lcg_src;lcg_sub)
 refine wpS_bind ?_;rw [range_list];refine wpS_mono (Q:=fun (r:Option (Option Nat) × Nat) st=>st = Ms κ arr p g/\r.1 = none/\1 <= r.2/\r.2 <= mZ/\Ups c arr lo r.2/\(r.2 < mZ->c (ka arr (lo + r.2)) (ka arr (lo + r.2 - 1)) = true))
  (nB (fun k (r:Option (Option Nat) × Nat) st=>st = Ms κ arr p g/\r.1 = none/\1 <= r.2/\r.2 + k = mZ/\Ups c arr lo r.2) ?_ ?_ _ _ _ ⟨rfl,rfl,Nat.le_refl _,by rw [List.length_range'];dsimp only;omega,fun i j a b=>by dsimp only at b;omega⟩) ?_
 ·rintro x k ⟨r,n⟩ st ⟨rfl,rfl,a1,a2,u⟩;dsimp only at a1 a2 u
  (lcg_src;lcg_sub)
  refine wpS_bind (je L G (by omega) (by omega) ?_);lcg_src
  cases e:c (ka arr (lo + n)) (ka arr (lo + n - 1)) with
  | true=>exact ar (fun _=>wpS_pure ⟨rfl,rfl,a1,by dsimp only;omega,u,fun _=>e⟩) fun z=>absurd rfl z
  | false =>
   refine ar (fun z=>nomatch z) fun _=>?_
   (lcg_src;lcg_sub)
   exact wpS_pure ⟨rfl,rfl,by dsimp only;omega,by dsimp only;omega,u.more L G (by omega) a1 (L.tot _ _ (G.at_ (by omega)) (G.at_ (by omega)) (G.ne (by omega) (by omega) (by omega)) e)⟩
 ·rintro ⟨r,n⟩ st ⟨rfl,rfl,a1,a2,u⟩;exact ⟨rfl,rfl,a1,by omega,u,fun z=>by omega⟩
 rintro ⟨r,n⟩ st ⟨rfl,rfl,a1,a2,u,ex⟩;dsimp only at a1 a2 u ex
 (lcg_src;lcg_sub;lcg_sub)
 refine ar (fun e=>wpS_pure (q n arr a1 a2 Loc.refl u)) fun e=>?_
 have e:n ≠ mZ:=by simpa using e
 (extract_lets +onlyGivenNames -underBinder -merge -useContext J;clear_value (hJ:J = _))
 refine ar (fun MU=>?_) fun MU=>?_
 ·refine wpS_bind (je L G (by omega) (by omega) ?_);lcg_src;have:c (ka arr lo) (ka arr (lo + n - 1)) = true:=by
   have:=u 0 (n - 1) (by omega) (by omega);rw [show lo + (n - 1) = lo + n - 1 by omega] at this;exact this
  refine ar (fun _=>wpS_pure (q n arr a1 a2 Loc.refl u)) fun z=>absurd this z
 obtain rfl:n = 1:=by omega
 have ex:=ex (by omega);rw [hJ];lcg_src;refine wpS_bind (jd ?_)
 (lcg_src;lcg_sub;lcg_sub)
 refine wpS_bind ?_;rw [range_list];refine wpS_mono (Q:=fun (r:Option (Option Nat) × Nat × Nat) st=>st = Ms κ arr p g/\r.1 = none/\r.2.2 = 0/\2 <= r.2.1/\r.2.1 <= mZ/\Dns c arr lo r.2.1)
  (nB (fun k (r:Option (Option Nat) × Nat × Nat) st=>st = Ms κ arr p g/\r.1 = none/\r.2.2 = 0/\2 <= r.2.1/\r.2.1 + k = mZ/\Dns c arr lo r.2.1) ?_ ?_ _ _ _ ⟨rfl,rfl,rfl,Nat.le_refl _,by rw [List.length_range'];dsimp only;omega,fun i j a b=>by
   dsimp only at b;obtain rfl:i = 0:=by omega
   obtain rfl:j = 1:=by omega
   exact ex⟩) ?_
 ·rintro x k ⟨r,n,S6⟩ st ⟨rfl,rfl,rfl,a1,a2,u⟩;dsimp only at a1 a2 u
  (lcg_src;lcg_sub;lcg_sub;lcg_sub)
  refine wpS_bind (je L G (by omega) (by omega) ?_);lcg_src
  (extract_lets +onlyGivenNames -underBinder -merge -useContext J2;clear_value (Mg:J2 = _))
  cases e:c (ka arr (lo + n)) (ka arr (lo + n - 1)) with
  | true =>
   refine ar (fun _=>?_) fun z=>absurd rfl z
   (extract_lets +onlyGivenNames -underBinder -merge -useContext J3;clear_value (OH:J3 = _))
   refine ar (fun z=>absurd z (Nat.lt_irrefl 0)) fun _=>?_
   rw [OH,Mg]
   (lcg_src;lcg_sub;lcg_sub)
   exact wpS_pure ⟨rfl,rfl,rfl,by dsimp only;omega,by dsimp only;omega,u.more L G (by omega) (by omega) e⟩
  | false =>
   refine ar (fun z=>nomatch z) fun _=>?_
   have e':=L.tot _ _ (G.at_ (by omega)) (G.at_ (by omega)) (G.ne (by omega) (by omega) (by omega)) e;refine wpS_bind (je L G (by omega) (by omega) ?_);lcg_src;refine ar (fun _=>wpS_pure ⟨rfl,rfl,rfl,a1,by dsimp only;omega,u⟩) fun z=>absurd e' z
 ·rintro ⟨r,n,S6⟩ st ⟨rfl,rfl,rfl,a1,a2,u⟩;exact ⟨rfl,rfl,rfl,a1,by omega,u⟩
 rintro ⟨r,n,S6⟩ st ⟨rfl,rfl,rfl,a1,a2,u⟩;dsimp only at a1 a2 u
 (lcg_src;lcg_sub;lcg_sub;lcg_sub;lcg_sub)
 (extract_lets +onlyGivenNames -underBinder -merge -useContext J4;clear_value (W5:J4 = _))
 refine ar (fun z=>absurd z (Nat.lt_irrefl 0)) fun _=>?_
 rw [W5];lcg_src;refine wpS_bind (wpS_reverse ?_);have lc:=HC (arr:=arr) (lo:=lo) (n:=n) (by omega);have u2:=u.rev (by omega);show wpS _ _ _ _ _ _ (Ms κ (mirror arr lo (lo + n) ((lo + n - lo) / 2)) p g);generalize mirror arr lo (lo + n) ((lo + n - lo) / 2) = bK at *;have G2:=G.perm lc.pm;have sz:=lc.size;refine wpS_bind ?_;rw [range_list];refine wpS_mono (Q:=fun (r:Option (Option Nat) × Nat) st=>st = Ms κ bK p g/\r.1 = none/\n <= r.2/\r.2 <= mZ/\Ups c bK lo r.2)
  (nB (fun k (r:Option (Option Nat) × Nat) st=>st = Ms κ bK p g/\r.1 = none/\n <= r.2/\r.2 + k = mZ/\Ups c bK lo r.2) ?_ ?_ _ _ _ ⟨rfl,rfl,Nat.le_refl _,by rw [List.length_range'];dsimp only;omega,u2⟩) ?_
 ·rintro x k ⟨r,m⟩ st ⟨rfl,rfl,a1,a2,u⟩;dsimp only at a1 a2 u
  (lcg_src;lcg_sub)
  refine wpS_bind (je L G2 (by omega) (by omega) ?_);lcg_src
  cases e:c (ka bK (lo + m)) (ka bK (lo + m - 1)) with
  | true=>exact ar (fun _=>wpS_pure ⟨rfl,rfl,a1,by dsimp only;omega,u⟩) fun z=>absurd rfl z
  | false =>
   refine ar (fun z=>nomatch z) fun _=>?_
   (lcg_src;lcg_sub)
   exact wpS_pure ⟨rfl,rfl,by dsimp only;omega,by dsimp only;omega,u.more L G2 (by omega) (by omega) (L.tot _ _ (G2.at_ (by omega)) (G2.at_ (by omega)) (G2.ne (by omega) (by omega) (by omega)) e)⟩
 ·rintro ⟨r,m⟩ st ⟨rfl,rfl,a1,a2,u⟩;exact ⟨rfl,rfl,a1,by omega,u⟩
 rintro ⟨r,m⟩ st ⟨rfl,rfl,a1,a2,u⟩;dsimp only at a1 a2 u
 (lcg_src;lcg_sub;lcg_sub)
 exact wpS_pure (q m bK (by omega) a2 (lc.mono (by omega)) u)
end
end TS
namespace TS
local macro_rules | `(tactic| lcg_src) => `(tactic| try dsimp (zeta := false) (zetaUnused := false) only)
local macro_rules | `(tactic| lcg_sub) => `(tactic| (extract_lets +onlyGivenNames -underBinder -merge -useContext zz; subst zz; try dsimp (zeta := false) (zetaUnused := false) only))
open PySem PySem.W PyProof.Rows
section
variable {prog:Program} {w:World} {A:Around} {s:Shared} {E:Value->Shared->Prop} {κ:SortKind} {M:Keyed->Prop} {c:Keyed->Keyed->Bool}
theorem HD {arr:Array Keyed} {lo k l:Nat} (hk:lo + k < arr.size) (hl:l <= k):Loc arr (bubble arr (lo + k) (lo + k - (lo + l))) lo (lo + k + 1):=by
 refine ⟨bubble_perm _ _ _,fun i z=>?_⟩;rw [getElem?_bubble hk _ (by omega),if_neg (by omega),if_neg (by omega)]
theorem JM (L : uT prog w A s κ M c) {arr : Array Keyed} {p : Array (Nat × Nat × Nat)} {g lo n ok : Nat} (G : Gd M arr) (hn : lo + n <= arr.size) (h1 : 1 <= ok) (h2 : ok <= n) (u : Ups c arr lo ok) {Q : Bool -> SortSt -> Prop}
    (q:∀ br,Loc arr br lo (lo + n)->Ups c br lo n->Q true (Ms κ br p g)):wpS (model prog w) A E s (binarySort' lo n ok) Q (Ms κ arr p g):=by
 rw [binarySort'_eq];refine wpS_bind ?_;rw [show max ok 1 = ok by omega];refine wpS_mono (Q:=fun (r:Option Bool × PUnit) st=>∃ br,st = Ms κ br p g/\r.1 = none/\Loc arr br lo (lo + n)/\Ups c br lo n)
  (wpS_forRange (fun k (r:Option Bool × PUnit) st=>∃ br,st = Ms κ br p g/\r.1 = none/\Loc arr br lo (lo + n)/\Ups c br lo k) ?_ ?_ ⟨arr,rfl,rfl,Loc.refl,u⟩) ?_
 ·rintro k ⟨r,_⟩ st Jz yz ⟨bK,rfl,rfl,lc,u2⟩;have G2:=G.perm lc.pm;have sz:=lc.size
  (lcg_src;lcg_sub;lcg_sub)
  refine wpS_bind ?_;rw [range_list];refine wpS_mono (Q:=fun (r:Option Bool × Nat × Nat) st=>st = Ms κ bK p g/\r.1 = none/\r.2.1 <= k/\(∀ j,j < r.2.1->c (ka bK (lo + j)) (ka bK (lo + k)) = true)/\(∀ j,r.2.1 <= j->j < k->c (ka bK (lo + k)) (ka bK (lo + j)) = true))
   (nO (fun f (r:Option Bool × Nat × Nat) st=>st = Ms κ bK p g/\r.1 = none/\r.2.1 <= r.2.2/\r.2.2 <= k/\f = r.2.2 - r.2.1/\(∀ j,j < r.2.1->c (ka bK (lo + j)) (ka bK (lo + k)) = true)/\(∀ j,r.2.2 <= j->j < k->c (ka bK (lo + k)) (ka bK (lo + j)) = true)) ?_ ?_ _ k _ _ (by rw [List.length_range'];exact Nat.le_refl _) ⟨rfl,rfl,Nat.zero_le _,Nat.le_refl _,rfl,fun j z=>absurd z (Nat.not_lt_zero _),fun j z y=>by dsimp only at z;omega⟩) ?_
  ·rintro _ f ⟨r0,l,r⟩ st ⟨rfl,rfl,b1,b2,b3,b4,b5⟩;dsimp only at b1 b2 b3 b4 b5
   (lcg_src;lcg_sub;lcg_sub;lcg_sub)
   refine ar (fun e=>wpS_pure ⟨rfl,rfl,by dsimp only;omega,b4,fun j y z=>b5 j (by dsimp only at y;omega) z⟩) fun e=>?_
   (lcg_src;lcg_sub)
   refine wpS_bind (je L G2 (by omega) (by omega) ?_);lcg_src
   cases e2:c (ka bK (lo + k)) (ka bK (lo + (l + r) / 2)) with
   | true =>
    refine ar (fun _=>?_) fun z=>absurd rfl z
    (lcg_src;lcg_sub)
    refine wpS_pure ⟨_,show (l + r) / 2 - l < f by omega,rfl,rfl,by dsimp only;omega,by dsimp only;omega,rfl,b4,fun j y z=>?_⟩;dsimp only at y
    by_cases z2:j = (l + r) / 2
    ·rw [z2];exact e2
    ·exact L.trans _ _ _ (G2.at_ (by omega)) (G2.at_ (by omega)) (G2.at_ (by omega)) e2 (u2 _ _ (by omega) z)
   | false =>
    refine ar (fun z=>nomatch z) fun _=>?_
    (lcg_src;lcg_sub)
    have e':=L.tot _ _ (G2.at_ (by omega)) (G2.at_ (by omega)) (G2.ne (by omega) (by omega) (by omega)) e2;refine wpS_pure ⟨_,show r - ((l + r) / 2 + 1) < f by omega,rfl,rfl,by dsimp only;omega,by dsimp only;omega,rfl,fun j y=>?_,b5⟩
    dsimp only at y
    by_cases z2:j = (l + r) / 2
    ·rw [z2];exact e'
    ·exact L.trans _ _ _ (G2.at_ (by omega)) (G2.at_ (by omega)) (G2.at_ (by omega)) (u2 _ _ (by omega) (by omega)) e'
  ·rintro ⟨r0,l,r⟩ st ⟨rfl,rfl,b1,b2,b3,b4,b5⟩;dsimp only at b1 b2 b3 b4 b5;exact ⟨rfl,rfl,by dsimp only;omega,b4,fun j y z=>b5 j (by dsimp only at y;omega) z⟩
  rintro ⟨r0,l,r⟩ st ⟨rfl,rfl,b1,b4,b5⟩;dsimp only at b1 b4 b5
  (lcg_src;lcg_sub;lcg_sub;lcg_sub)
  rw [moveDown'_eq];refine wpS_bind (wpS_modify (wpS_pure ⟨bubble bK (lo + k) (lo + k - (lo + l)),rfl,rfl,lc.trans ((HD (by omega) b1).mono (by omega)),fun i j wo hj=>?_⟩));have e:∀ i,ka (bubble bK (lo + k) (lo + k - (lo + l))) (lo + i) = if i = l then ka bK (lo + k) else if l < i/\i <= k then ka bK (lo + (i - 1)) else ka bK (lo + i):=fun i=>by
   have:=getElem?_bubble (xs:=bK) (src:=lo + k) (by omega) (lo + k - (lo + l)) (by omega) (lo + i)
   by_cases e1:i = l
   ·rw [if_pos e1];rw [if_pos (by omega)] at this;exact mq this
   ·rw [if_neg e1];rw [if_neg (by omega)] at this
    by_cases e2:l < i/\i <= k
    ·rw [if_pos e2];rw [if_pos (by omega),show lo + i - 1 = lo + (i - 1) by omega] at this;exact mq this
    ·rw [if_neg e2];rw [if_neg (by omega)] at this;exact mq this
  rw [e,e]
  by_cases e1:i = l
  ·rw [if_pos e1,if_neg (by omega),if_pos ⟨by omega,by omega⟩];exact b5 _ (by omega) (by omega)
  ·rw [if_neg e1]
   by_cases e2:l < i/\i <= k
   ·rw [if_pos e2,if_neg (by omega),if_pos ⟨by omega,by omega⟩];exact u2 _ _ (by omega) (by omega)
   ·rw [if_neg e2]
    by_cases e3:j = l
    ·rw [if_pos e3];exact b4 i (by omega)
    ·rw [if_neg e3]
     by_cases e4:l < j/\j <= k
     ·rw [if_pos e4];exact u2 _ _ (by omega) (by omega)
     ·rw [if_neg e4];exact u2 _ _ wo (by omega)
 ·rintro ⟨r,_⟩ st ⟨bK,rfl,rfl,lc,u2⟩;rw [show max ok n = n by omega] at u2;exact ⟨bK,rfl,rfl,lc,u2⟩
 ·rintro ⟨r,_⟩ st ⟨bK,rfl,rfl,lc,u2⟩;exact wpS_pure (q bK lc u2)
end
end TS
namespace TS
local macro_rules | `(tactic| lcg_src) => `(tactic| try dsimp (zeta := false) (zetaUnused := false) only)
local macro_rules | `(tactic| lcg_sub) => `(tactic| (extract_lets +onlyGivenNames -underBinder -merge -useContext zz; subst zz; try dsimp (zeta := false) (zetaUnused := false) only))
open PySem PySem.W PyProof.Rows
def Runs (c:Keyed->Keyed->Bool) (arr:Array Keyed):Nat->List (Nat × Nat × Nat)->Nat->Prop
 | s,[],e=>s = e
 | s,x :: l,e=>x.1 = s/\0 < x.2.1/\Ups c arr s x.2.1/\Runs c arr (s + x.2.1) l e
section
variable {c:Keyed->Keyed->Bool} {arr br:Array Keyed}
theorem Runs.len:∀ {l:List (Nat × Nat × Nat)} {s e:Nat},Runs c arr s l e->l.length + s <= e
 | [],s,e,h=>by rw [show s = e from h];simp
 | x :: l,s,e,h=>by
  have:=h.2.2.2.len;have:=h.2.1;rw [List.length_cons];omega
theorem Runs.same:∀ {l:List (Nat × Nat × Nat)} {s e:Nat},Runs c arr s l e->(∀ i,s <= i->i < e->br[i]? = arr[i]?)->Runs c br s l e
 | [],s,e,h,_=>h
 | x :: l,s,e,h,k=>by
  have:=h.2.2.2.len;refine ⟨h.1,h.2.1,fun i j wo hj=>?_,h.2.2.2.same fun i a b=>k i (by omega) b⟩
  rw [mq (k (s + i) (by omega) (by omega)),mq (k (s + j) (by omega) (by omega))];exact h.2.2.1 i j wo hj
theorem Runs.append:∀ {l l':List (Nat × Nat × Nat)} {s e:Nat},Runs c arr s (l ++ l') e ↔ ∃ m,Runs c arr s l m/\Runs c arr m l' e
 | [],l',s,e=>⟨fun h=>⟨s,rfl,h⟩,fun ⟨m,h1,h2⟩=>by rw [show s = m from h1];exact h2⟩
 | x :: l, l', s, e => ⟨fun h => by
     obtain ⟨m,h1,h2⟩:=Runs.append.mp h.2.2.2;exact ⟨m,⟨h.1,h.2.1,h.2.2.1,h1⟩,h2⟩,fun ⟨m,h1,h2⟩=>⟨h1.1,h1.2.1,h1.2.2.1,Runs.append.mpr ⟨m,h1.2.2.2,h2⟩⟩⟩
theorem Runs.third:∀ {l l':List (Nat × Nat × Nat)} {s e:Nat},Runs c arr s l e->l'.map (fun x=>(x.1,x.2.1)) = l.map (fun x=>(x.1,x.2.1))->Runs c arr s l' e
 | [],[],_,_,h,_=>h
 | x :: l,y :: l',s,e,h,k=>by
  simp only [List.map_cons,List.cons.injEq,Prod.mk.injEq] at k;obtain ⟨⟨k1,k2⟩,k3⟩:=k;refine ⟨by rw [k1];exact h.1,by rw [k2];exact h.2.1,by rw [k2];exact h.2.2.1,by rw [k2];exact h.2.2.2.third k3⟩
 | [],_ :: _,_,_,_,k=>by simp at k
 | _ :: _,[],_,_,_,k=>by simp at k
theorem GH {p:Array (Nat × Nat × Nat)} {i:Nat} (h:i + 1 < p.size):∃ l1 l2 x y,p.toList = l1 ++ x :: y :: l2/\l1.length = i/\p[i]? = some x/\p[i + 1]? = some y/\∀ z,((p.setIfInBounds i z).eraseIdxIfInBounds (i + 1)).toList = l1 ++ z :: l2:=by
 have h1:i < p.toList.length:=by rw [Array.length_toList];omega
 have h2:i + 1 < p.toList.length:=by rw [Array.length_toList];omega
 have e:p.toList = p.toList.take i ++ p.toList[i] :: p.toList[i + 1] :: p.toList.drop (i + 2):=by
  rw [<- List.drop_eq_getElem_cons h2,<- List.drop_eq_getElem_cons h1,List.take_append_drop]
 have hl:(p.toList.take i).length = i:=by rw [List.length_take];omega
 refine ⟨p.toList.take i,p.toList.drop (i + 2),p.toList[i],p.toList[i + 1],e,hl,by rw [<- Array.getElem?_toList,List.getElem?_eq_getElem h1],by rw [<- Array.getElem?_toList,List.getElem?_eq_getElem h2],fun z=>?_⟩;rw [Array.eraseIdxIfInBounds];rw [dif_pos (by rw [Array.size_setIfInBounds];omega),Array.toList_eraseIdx,Array.toList_setIfInBounds];generalize p.toList.take i = l1 at *;generalize p.toList.drop (i + 2) = l2 at *;rw [e,List.set_append_right _ _ (by omega),hl,Nat.sub_self,List.set_cons_zero,List.eraseIdx_append_of_length_le (by omega),hl,show i + 1 - i = 1 by omega]
 rfl
end
section
variable {prog:Program} {w:World} {A:Around} {s:Shared} {E:Value->Shared->Prop} {κ:SortKind} {M:Keyed->Prop} {c:Keyed->Keyed->Bool}
theorem qV (L : uT prog w A s κ M c) {arr : Array Keyed} {p : Array (Nat × Nat × Nat)} {g i e : Nat} (G : Gd M arr) (R : Runs c arr 0 p.toList e) (he : e <= arr.size) (hi : i + 1 < p.size) {Q : Bool -> SortSt -> Prop}
    (q:∀ br p' g',br.Perm arr->(∀ i,e <= i->br[i]? = arr[i]?)->Runs c br 0 p'.toList e->p'.size + 1 = p.size->Q true (Ms κ br p' g')):wpS (model prog w) A E s (mergeAt' i) Q (Ms κ arr p g):=by
 obtain ⟨l1,l2,⟨sa,na,p1⟩,⟨sb,nb,p2⟩,ep,hl,h1,h2,hz⟩:=GH hi;rw [ep] at R;obtain ⟨m,R1,R2⟩:=Runs.append.mp R;obtain ⟨e1,n1,u1,R3⟩:=R2;obtain ⟨e2,n2,u2,R4⟩:=R3;dsimp only at e1 n1 u1 e2 n2 u2 R4;subst e1;have l4:=R4.len;have Te:=R1.len;refine xK L h1 h2 e2 (by omega) n1 n2 (u1.srt (by omega)) (by rw [e2];exact u2.srt (by omega)) G.mm G.nd fun br g' mm a1 a2 a3=>?_
 have Ec:(arr.toList.take sa).length = sa:=by rw [List.length_take,Array.length_toList];omega
 have Z':mm.length = na + nb:=by rw [a2.length_eq,List.length_take,List.length_drop,Array.length_toList];omega
 have Ij:arr.toList = arr.toList.take sa ++ (arr.toList.drop sa).take (na + nb) ++ arr.toList.drop (sb + nb):=by
  rw [e2,Nat.add_assoc,<- List.drop_drop,List.append_assoc,List.take_append_drop,List.take_append_drop]
 have pm:br.Perm arr:=by
  rw [Array.perm_iff_toList_perm,a1];rw (config:={ occs:=.pos [3] }) [Ij];exact List.Perm.append_right _ (List.Perm.append_left _ a2)
 have out:∀ i,i < sa \/ sb + nb <= i->br[i]? = arr[i]?:=fun i hi=>by
  rw [<- Array.getElem?_toList,<- Array.getElem?_toList,a1]
  rcases hi with hi | hi
  ·rw [List.append_assoc,List.getElem?_append_left (by omega),List.getElem?_take_of_lt hi]
  ·rw [List.getElem?_append_right (by rw [List.length_append];omega),List.getElem?_drop,List.length_append]
   congr 1
   omega
 have seg:(br.toList.drop sa).take (na + nb) = mm:=by
  rw [a1,List.append_assoc,List.drop_append_of_le_length (by omega),List.drop_of_length_le (by omega),List.nil_append,List.take_append_of_le_length (by omega),List.take_of_length_le (by omega)]
 refine q br _ g' pm (fun i hi=>out i (by omega)) ?_ ?_
 ·rw [hz];refine Runs.append.mpr ⟨sa,R1.same fun i _ b=>out i (.inl b),rfl,by dsimp only;omega,?_,?_⟩
  ·dsimp only;refine Ups.of_srt (by rw [pm.size_eq];omega) ?_;rw [seg];exact a3
  ·dsimp only;rw [show sa + (na + nb) = sa + na + nb by omega];exact R4.same fun i a _=>out i (.inr (by omega))
 ·rw [<- Array.length_toList,hz,<- Array.length_toList (xs:=p),ep];simp only [List.length_append,List.length_cons];omega
end
end TS
namespace TS
local macro_rules | `(tactic| lcg_src) => `(tactic| try dsimp (zeta := false) (zetaUnused := false) only)
local macro_rules | `(tactic| lcg_sub) => `(tactic| (extract_lets +onlyGivenNames -underBinder -merge -useContext zz; subst zz; try dsimp (zeta := false) (zetaUnused := false) only))
open PySem PySem.W PyProof.Rows
section
variable {prog:Program} {w:World} {A:Around} {s:Shared} {E:Value->Shared->Prop} {κ:SortKind} {M:Keyed->Prop} {c:Keyed->Keyed->Bool}
theorem LL {C:Prop} [Decidable C] {n:Nat} (h:2 <= n):(if C then n - 2 - 1 else n - 2) + 1 < n:=by split <;> omega
theorem AJ {p:Array (Nat × Nat × Nat)} {j:Nat} {f:Nat × Nat × Nat->Nat × Nat × Nat} (hf:∀ x,(f x).1 = x.1/\(f x).2.1 = x.2.1):(p.modify j f).toList.map (fun x=>(x.1,x.2.1)) = p.toList.map (fun x=>(x.1,x.2.1)):=by
 rw [Array.toList_modify];apply List.ext_getElem?;intro i;rw [List.getElem?_map,List.getElem?_map,List.getElem?_modify]
 cases p.toList[i]? with
 | none=>rfl
 | some x =>
  by_cases z:j = i
  ·show some ((if j = i then f x else x).1,(if j = i then f x else x).2.1) = _
   rw [if_pos z];show some ((f x).1,(f x).2.1) = _;rw [(hf x).1,(hf x).2]
   rfl
  ·show some ((if j = i then f x else x).1,(if j = i then f x else x).2.1) = _
   rw [if_neg z]
   rfl
theorem Fp (L : uT prog w A s κ M c) {a₀ : Array Keyed} (G : Gd M a₀) (h2 : 2 <= a₀.size) {g : Nat} {Q : Unit -> SortSt -> Prop} (q : ∀ arr p g, arr.Perm a₀ -> Ups c arr 0 a₀.size -> Q () (Ms κ arr p g)) :
    wpS (model prog w) A E s sortRuns' Q (Ms κ a₀ #[] g):=by
 rw [sortRuns'_eq];refine wpS_bind (wpS_get ?_)
 (lcg_src;lcg_sub;lcg_sub;lcg_sub)
 have M6:(arrOf (Ms κ a₀ #[] g)).size = a₀.size:=rfl;rw [M6];generalize minRun' a₀.size a₀.size 0 = QM;refine wpS_bind ?_;rw [range_list];refine wpS_mono (Q:=fun (r:Option Unit × Nat) st=>∃ arr p g,st = Ms κ arr p g/\r.1 = none/\arr.Perm a₀/\Runs c arr 0 p.toList a₀.size)
  (nO (fun k (r:Option Unit × Nat) st=>∃ arr p g,st = Ms κ arr p g/\r.1 = none/\arr.Perm a₀/\r.2 <= a₀.size/\Runs c arr 0 p.toList r.2/\k = a₀.size - r.2) ?_ ?_ _ a₀.size _ _ (by rw [List.length_range'];exact Nat.le_refl _) ⟨a₀,#[],g,rfl,rfl,Array.Perm.refl _,Nat.zero_le _,rfl,rfl⟩) ?_
 ·rintro _ k ⟨r0,lo⟩ st ⟨arr,p,g,rfl,rfl,pm,PR,R,hk⟩;dsimp only at PR R hk
  (lcg_src;lcg_sub)
  refine ar (fun e=>wpS_pure ⟨arr,p,g,rfl,rfl,pm,by rw [show lo = a₀.size by omega] at R;exact R⟩) fun e=>?_
  have sz:=pm.size_eq;refine wpS_bind (BM L (G.perm pm) (by omega) (by omega) fun n qO n1 n2 lc u=>?_)
  (lcg_src;lcg_sub)
  (extract_lets +onlyGivenNames -underBinder -merge -useContext J;clear_value (hJ:J = _))
  have R1:Runs c qO 0 p.toList lo:=R.same fun i _ b=>lc.out i (.inl b)
  have K0:=lc.pm.trans pm;have j:∀ n qO,1 <= n->lo + n <= a₀.size->qO.Perm a₀->Runs c qO 0 p.toList lo->Ups c qO lo n->wpS (model prog w) A E s (J () n) (E4 (fun (r:Option Unit × Nat) st=>∃ arr p g,st = Ms κ arr p g/\r.1 = none/\arr.Perm a₀/\Runs c arr 0 p.toList a₀.size) fun (r:Option Unit × Nat) st=>∃ k',k' < k/\∃ arr p g,st = Ms κ arr p g/\r.1 = none/\arr.Perm a₀/\r.2 <= a₀.size/\Runs c arr 0 p.toList r.2/\k' = a₀.size - r.2) (Ms κ qO p g):=fun n qO n1 n2 K0 R1 u=>by
   rw [hJ];lcg_src;refine wpS_bind (wpS_get ?_)
   (extract_lets +onlyGivenNames -underBinder -merge -useContext J2;clear_value (Mg:J2 = _))
   have j2:∀ bK p2 g2,bK.Perm a₀->Runs c bK 0 p2.toList lo->Ups c bK lo n->wpS (model prog w) A E s (J2 ()) (E4 (fun (r:Option Unit × Nat) st=>∃ arr p g,st = Ms κ arr p g/\r.1 = none/\arr.Perm a₀/\Runs c arr 0 p.toList a₀.size) fun (r:Option Unit × Nat) st=>∃ k',k' < k/\∃ arr p g,st = Ms κ arr p g/\r.1 = none/\arr.Perm a₀/\r.2 <= a₀.size/\Runs c arr 0 p.toList r.2/\k' = a₀.size - r.2) (Ms κ bK p2 g2):=fun bK p2 g2 Vx R2 u2=>by
    rw [Mg];lcg_src;refine wpS_bind (wpS_modify ?_)
    (lcg_src;lcg_sub)
    refine wpS_pure ⟨_,show a₀.size - (lo + n) < k by omega,bK,p2.push (lo,n,0),g2,rfl,rfl,Vx,n2,?_,rfl⟩;rw [Array.toList_push];exact Runs.append.mpr ⟨lo,R2,rfl,by dsimp only;omega,u2,rfl⟩
   cases hb:p.back? with
   | none =>
    lcg_src;exact j2 qO p g K0 R1 u
   | some x =>
    obtain ⟨s1,m1,p1⟩:=x
    (lcg_src;lcg_sub)
    have p0:0 < p.size:=by
     rcases Nat.eq_zero_or_pos p.size with z | z
     ·rw [Array.back?_eq_getElem?,Array.getElem?_eq_none (by omega)] at hb;cases hb
     ·exact z
    refine wpS_bind ?_;rw [range_list];have Lx:=R1.len;rw [Array.length_toList] at Lx;refine wpS_mono (Q:=fun (r:Option Unit × Unit) st=>r.1 = none/\∃ arr p g,st = Ms κ arr p g/\arr.Perm a₀/\Runs c arr 0 p.toList lo/\Ups c arr lo n)
     (cj (fun k (r:Option Unit × Unit) st=>r.1 = none/\∃ arr p g,st = Ms κ arr p g/\arr.Perm a₀/\Runs c arr 0 p.toList lo/\Ups c arr lo n/\k = p.size - 1) ?_ _ (p.size - 1) _ _ (by rw [List.length_range'];omega) ⟨rfl,qO,p,g,rfl,K0,R1,u,rfl⟩) ?_
    ·rintro _ k2 ⟨r0,_⟩ st ⟨rfl,kU,p3,g3,rfl,zc,R3,u3,nJ⟩;have YS:=zc.size_eq;lcg_src;refine wpS_bind (wpS_get ?_)
     (lcg_src;lcg_sub)
     by_cases hp:p3.size > 1
     ·rw [show (if (pendingOf (Ms κ kU p3 g3)).size > 1 then (pendingOf (Ms κ kU p3 g3))[(pendingOf (Ms κ kU p3 g3)).size - 2]? else none) = some p3[p3.size - 2] from (if_pos hp).trans (Array.getElem?_eq_getElem (show p3.size - 2 < p3.size by omega))]
      generalize p3[p3.size - 2] = y;obtain ⟨y1,y2,SQ⟩:=y;lcg_src;refine ar (fun _=>wpS_pure ⟨rfl,kU,p3,g3,rfl,zc,R3,u3⟩) fun _=>?_
      refine wpS_bind (qV L (G.perm zc) R3 (by omega) (show p3.size - 2 + 1 < p3.size by omega) fun MB p4 g4 a1 a2 a3 a4=>?_)
      refine ar (fun z=>nomatch z) fun _=>?_
      refine wpS_pure ⟨_,show p4.size - 1 < k2 by omega,rfl,MB,p4,g4,rfl,a1.trans zc,a3,fun i j wo hj=>?_,rfl⟩;rw [mq (a2 (lo + i) (by omega)),mq (a2 (lo + j) (by omega))];exact u3 i j wo hj
     ·rw [show (if (pendingOf (Ms κ kU p3 g3)).size > 1 then (pendingOf (Ms κ kU p3 g3))[(pendingOf (Ms κ kU p3 g3)).size - 2]? else none) = none from if_neg hp]
      lcg_src;exact wpS_pure ⟨rfl,kU,p3,g3,rfl,zc,R3,u3⟩
    ·rintro ⟨r0,_⟩ st ⟨rfl,kU,p3,g3,rfl,zc,R3,u3⟩
     (lcg_src;lcg_sub)
     refine wpS_bind (wpS_modify ?_);refine j2 kU (p3.modify (p3.size - 1) _) g3 zc (R3.third (AJ ?_)) u3;rintro ⟨x1,x2,x3⟩;exact ⟨rfl,rfl⟩
  refine ar (fun hm=>?_) fun hm=>?_
  ·refine wpS_bind (jd ?_)
   (lcg_src;lcg_sub)
   refine wpS_bind (JM L (G.perm K0) (by rw [K0.size_eq];omega) n1 (by omega) u fun bK Td u2=>?_)
   refine ar (fun z=>nomatch z) fun _=>?_
   (lcg_src;lcg_sub)
   exact j _ bK (by omega) (by omega) (Td.pm.trans K0) (R1.same fun i _ b=>Td.out i (.inl b)) u2
  ·exact j n qO n1 (by omega) K0 R1 u
 ·rintro ⟨r0,lo⟩ st ⟨arr,p,g,rfl,rfl,pm,PR,R,hk⟩;dsimp only at PR R hk;exact ⟨arr,p,g,rfl,rfl,pm,by rw [show lo = a₀.size by omega] at R;exact R⟩
 rintro ⟨r0,lo⟩ st ⟨arr,p,g,rfl,rfl,pm,R⟩
 (lcg_src;lcg_sub;lcg_sub)
 refine wpS_bind ?_;rw [range_list];have Lx:=R.len;rw [Array.length_toList] at Lx;refine wpS_mono (Q:=fun (r:Option Unit × Unit) st=>r.1 = none/\∃ arr p g,st = Ms κ arr p g/\arr.Perm a₀/\Runs c arr 0 p.toList a₀.size/\p.size <= 1)
  (cj (fun k (r:Option Unit × Unit) st=>r.1 = none/\∃ arr p g,st = Ms κ arr p g/\arr.Perm a₀/\Runs c arr 0 p.toList a₀.size/\k = p.size - 1) ?_ _ (p.size - 1) _ _ (by rw [List.length_range'];omega) ⟨rfl,arr,p,g,rfl,pm,R,rfl⟩) ?_
 ·rintro _ k2 ⟨r0,_⟩ st ⟨rfl,kU,p3,g3,rfl,zc,R3,nJ⟩
  (lcg_src;lcg_sub)
  refine wpS_bind (wpS_get ?_)
  (lcg_src;lcg_sub)
  refine ar (fun e=>wpS_pure ⟨rfl,kU,p3,g3,rfl,zc,R3,e⟩) fun e=>?_
  have e:¬ p3.size <= 1:=e
  (lcg_src;lcg_sub;lcg_sub;lcg_sub)
  refine wpS_bind (qV L (G.perm zc) R3 (by rw [zc.size_eq];exact Nat.le_refl _) ?_ fun MB p4 g4 a1 a2 a3 a4=>?_)
  ·exact LL (show 2 <= p3.size by omega)
  ·refine ar (fun z=>nomatch z) fun _=>?_
   exact wpS_pure ⟨_,show p4.size - 1 < k2 by omega,rfl,MB,p4,g4,rfl,a1.trans zc,a3,rfl⟩
 ·rintro ⟨r0,_⟩ st ⟨rfl,kU,p3,g3,rfl,zc,R3,hp⟩
  (lcg_src;lcg_sub)
  refine wpS_pure (q kU p3 g3 zc ?_);have hl:p3.toList.length <= 1:=by rw [Array.length_toList];exact hp
  match lL:p3.toList,hl with
  | [],_ =>
   rw [lL] at R3;have:0 = a₀.size:=R3;omega
  | [x],_ =>
   rw [lL] at R3;obtain ⟨_,_,u,e⟩:=R3;have e:0 + x.2.1 = a₀.size:=e;rw [show x.2.1 = a₀.size by omega] at u;exact u
end
end TS
namespace L2
open PySem PySem.Spec PySem.W PyProof.Rows
variable {H H':Hp} {v:V} {u:Value}
abbrev RK:=Str × Int
variable {k a b:RK}
def fX (a b:RK):Bool:=if a.1 = b.1 then decide (a.2 < b.2) else decide (a.1.cps.toList < b.1.cps.toList)
def KeyT (H:Hp) (v:V) (k:RK):Prop:=∃ a,v = .ref a/\H a = some (.tup [.str k.1,.int k.2])
def KeyTs (H:Hp):List V->List RK->Prop
 | [],[]=>True
 | v :: vs,k :: ks=>KeyT H v k/\KeyTs H vs ks
 | _,_=>False
theorem KeyT.same (h:KeyT H v k) (s:Same H H'):KeyT H' v k:=by
 obtain ⟨a,e,h⟩:=h;exact ⟨a,e,s a _ h⟩
theorem KeyTs.same {H H':Hp} (s:Same H H'):∀ {vs:List V} {ks:List RK},KeyTs H vs ks->KeyTs H' vs ks
 | [],[],_=>trivial
 | _ :: _,_ :: _,h=>⟨h.1.same s,h.2.same s⟩
 | [],_ :: _,h=>h.elim
 | _ :: _,[],h=>h.elim
theorem KeyTs.snoc {H:Hp}:∀ {vs:List V} {ks:List RK} {v:V} {k:RK},KeyTs H vs ks->KeyT H v k->KeyTs H (vs ++ [v]) (ks ++ [k])
 | [],[],_,_,_,h=>⟨h,trivial⟩
 | _ :: _,_ :: _,_,_,h,h'=>⟨h.1,h.2.snoc h'⟩
 | [],_ :: _,_,_,h,_=>h.elim
 | _ :: _,[],_,_,h,_=>h.elim
theorem KeyTs.len {H:Hp}:∀ {vs:List V} {ks:List RK},KeyTs H vs ks->vs.length = ks.length
 | [],[],_=>rfl
 | _ :: _,_ :: _,h=>by rw [List.length_cons,List.length_cons,h.2.len]
 | [],_ :: _,h=>h.elim
 | _ :: _,[],h=>h.elim
theorem KeyTs.at_ {H:Hp}:∀ {vs:List V} {ks:List RK} {us:List Value} {i:Nat},KeyTs H vs ks->Vals vs us->(hi:i < ks.length)->∃ v,RelV v (us.getD i Value.none)/\KeyT H v (ks.getD i (⟨#[]⟩,0))
 | v :: vs,k :: ks,us,0,h,r,_=>by
  cases r with
  | cons r1 r2=>exact ⟨v,r1,h.1⟩
 | v :: vs,k :: ks,us,i + 1,h,r,hi=>by
  cases r with
  | cons r1 r2 =>
   obtain ⟨v',a,b⟩:=KeyTs.at_ (i:=i) h.2 r2 (by rw [List.length_cons] at hi;omega);exact ⟨v',by rw [List.getD_cons_succ];exact a,by rw [List.getD_cons_succ];exact b⟩
 | [],_ :: _,_,_,h,_,_=>h.elim
 | _ :: _,[],_,_,h,_,_=>h.elim
 | [],[],_,_,_,_,hi=>absurd hi (Nat.not_lt_zero _)
section
variable {X:Cx} {pins:List (Addr × Obj)} {σ:St} {s:Shared} {A:Around} {E:Value->Shared->Prop}
theorem tZ (I:Inv X pins σ H s) (h:KeyT H v k) (r:RelV v u):∃ a o t t' n,u = .ref a/\s.heap.get? a = some o/\o.cls = .type "tuple"/\o.data = .seq #[.str k.1 t,.int k.2 t'] n:=by
 obtain ⟨a,rfl,ha⟩:=h;obtain rfl:u = Value.ref a:=r;obtain ⟨its,rv,p,_⟩:=I.tuple (SqT.of ha)
 cases rv with
 | cons r1 rr =>
  cases rr with
  | cons r2 rr =>
   cases rr
   obtain ⟨t,rfl⟩:=r1;obtain ⟨t',rfl⟩:=r2;obtain ⟨o,ho,hc,n,hd⟩:=(show s.heap.IsTuple a _ from p);exact ⟨a,o,t,t',n,rfl,ho,hc,hd⟩
theorem MA (I : Inv X pins σ H s) {v' : V} {u' : Value} {k' : RK} (h : KeyT H v k) (h' : KeyT H v' k') (r : RelV v u) (r' : RelV v' u') {C : Bool -> Shared -> Prop} (q : C (fX k k') s) :
    wpAny (model X.prog X.w) A (keyLt' (tuples' true) u u') C E s:=by
 obtain ⟨a,o,t1,t2,n,rfl,ho,_,hd⟩:=tZ I h r;obtain ⟨b,o',t3,t4,n',rfl,HY,_,A'⟩:=tZ I h' r';unfold fX at q;refine kat_lt ho hd HY A' (kat_cons (wpAny_eqBool_str (kat_go (fun e=>kat_yes (kat_cons (wpAny_eqBool_int (kat_go (fun e2=>kat_yes (kat_nil ?_)) (fun e2=>kat_no (kat_one _ _ (lt_int ?_))))))) (fun e=>kat_no (oneLt_str ?_)))))
 ·have e1:=of_decide_eq_true e;have e2:=eq_of_beq e2;rw [if_pos e1,e2,decide_eq_false (Int.lt_irrefl _)] at q;exact q
 ·have e1:=of_decide_eq_true e;rw [if_pos e1] at q;exact q
 ·have e1:=of_decide_eq_false e;rw [if_neg e1] at q;exact q
theorem v8 (I:Inv X pins σ H s):∀ {vs:List V} {ks:List RK} {us:List Value},KeyTs H vs ks->Vals vs us->∃ fs:List Value,KatTups s.heap us fs/\fs.length = ks.length/\∀ f ∈ fs,∃ z t,f = .str z t
 | [],[],us,_,r=>by cases r;exact ⟨[],trivial,rfl,fun _ h=>by cases h⟩
 | v :: vs,k :: ks,us,h,r=>by
  cases r with
  | cons r1 r2 =>
   obtain ⟨fs,a1,a2,a3⟩:=v8 I h.2 r2;obtain ⟨a,o,t,t',n,rfl,ho,hc,hd⟩:=tZ I h.1 r1;refine ⟨.str k.1 t :: fs,KatTups.cons ho hc hd rfl a1,by rw [List.length_cons,List.length_cons,a2],fun f hf=>?_⟩
   rcases List.mem_cons.mp hf with rfl | hf
   ·exact ⟨_,_,rfl⟩
   ·exact a3 f hf
 | [],_ :: _,_,h,_=>h.elim
 | _ :: _,[],_,h,_=>h.elim
theorem E3 (I:Inv X pins σ H s) {vs:List V} {ks:List RK} {us:List Value} (h:KeyTs H vs ks) (r:Vals vs us) (h0:0 < ks.length) {Q:SortKind->Shared->Prop} (q:Q (tuples' true) s):wpAny (model X.prog X.w) A (keyKind' us.toArray) Q E s:=by
 obtain ⟨fs,a1,a2,a3⟩:=v8 I h r;refine kat_kind (T:=.type "str") a1 (by omega) (fun f hf=>?_) rfl q
 obtain ⟨z,t,rfl⟩:=a3 f hf;exact .now
end
theorem Lv (a:Str):¬ a.cps.toList < a.cps.toList:=List.lt_irrefl _
theorem oz {c:RK} (h1:fX a b = true) (h2:fX b c = true):fX a c = true:=by
 unfold fX at *
 by_cases e1:a.1 = b.1
 ·rw [if_pos e1] at h1
  by_cases e2:b.1 = c.1
  ·rw [if_pos e2] at h2;rw [if_pos (e1.trans e2)];have h1:=of_decide_eq_true h1;have h2:=of_decide_eq_true h2;exact decide_eq_true (by omega)
  ·rw [if_neg e2] at h2;rw [if_neg (by rw [e1];exact e2),e1];exact h2
 ·rw [if_neg e1] at h1
  by_cases e2:b.1 = c.1
  ·rw [if_neg (by rw [<- e2];exact e1),<- e2];exact h1
  ·rw [if_neg e2] at h2;have h1:=of_decide_eq_true h1;have h2:=of_decide_eq_true h2;have h3:=List.lt_trans h1 h2;have e3:a.1 ≠ c.1:=fun z=>by rw [z] at h1;exact absurd (List.lt_trans h1 h2) (Lv _)
   rw [if_neg e3];exact decide_eq_true h3
theorem vU (a:RK):fX a a = false:=by
 unfold fX;rw [if_pos rfl];exact decide_eq_false (by omega)
theorem vV (h:fX a b = true):fX b a = false:=by
 cases e:fX b a with
 | false=>rfl
 | true=>have:=oz h e;rw [vU] at this;cases this
theorem DY (hne:a ≠ b) (h:fX a b = false):fX b a = true:=by
 unfold fX at *
 by_cases e:a.1 = b.1
 ·rw [if_pos e] at h;rw [if_pos e.symm];have h:=of_decide_eq_false h;have:a.2 ≠ b.2:=fun z=>hne (Prod.ext e z)
  exact decide_eq_true (by omega)
 ·rw [if_neg e] at h;rw [if_neg (Ne.symm e)];have h:=of_decide_eq_false h;have h2:b.1.cps.toList <= a.1.cps.toList:=List.not_lt.mp h;refine decide_eq_true ?_
  by_cases z:b.1.cps.toList < a.1.cps.toList
  ·exact z
  ·have h3:a.1.cps.toList <= b.1.cps.toList:=List.not_lt.mp z;exact absurd (kj (List.le_antisymm h3 h2)) e
section
variable {X:Cx} {pins:List (Addr × Obj)} {σ:St} {s:Shared} {A:Around} {E:Value->Shared->Prop}
theorem Inv.adopt {h' : Heap} {D : Addr} {xs : List V} {t' : Nat} (I : Inv X pins σ H s) (f : FpOk X pins H D) (k : ∀ b o, b ≠ D -> s.heap.get? b = some o -> h'.get? b = some o) (new : ObjOk X.prog X.w (upd H D (.lst xs)) h' D (.lst xs)) :
    Inv X pins σ (upd H D (.lst xs)) { s with heap:=h',toks:=t' }:=by
 obtain ⟨f0,f1,f2,f3,f4,f5⟩:=f;have nn:∀ b u,H b = some u->b ≠ D:=fun b u e z=>by rw [z,f0] at e;cases e
 have nc:∀ b,b ∉ [D]->b ≠ D:=fun b hb z=>hb (by rw [z];exact List.mem_singleton.mpr rfl)
 refine I.step (g':=s.gens) (d':=s.drawn) (ch:=[D]) (fun b hb=>?_) (fun b o _ _ hc e _=>k b o (nc b hc) e) (fun b o _ _ hc e _=>⟨o.slots,k b o (nc b hc) e⟩) (fun b o hc e q=>by rw [aj (nc b hc)];exact q)
  (fun b o hc e=>⟨o,k b o (nc b hc) e⟩) (fun b xs e=>by rw [aj (nn b _ e)];exact e) (fun b o u e=>by rw [aj (nn b _ e)];exact e) (fun b ps e=>⟨#[],by rw [aj (nn b _ e),e];simp⟩) (fun m hm=>?_) (fun b u e=>?_) I.bare
 ·rw [List.mem_singleton.mp hb];exact ⟨f3,f1,f4,f5⟩
 ·obtain ⟨o,es,ep,ho,r⟩:=hm;exact ⟨o,es,ep,k _ o (Ne.symm f1) ho,r⟩
 ·by_cases hb:b = D
  ·subst hb;rw [ak] at e
   cases e
   exact new
  ·rw [aj hb] at e;refine (I.hok b u e).stay (fun c v hc q=>k c v ?_ q) (fun c q=>by rw [aj (nn c _ q)];exact q) fun c xs q=>by rw [aj (nn c _ q)];exact q
   rcases hc with z | z
   ·rw [z];exact nn b u e
   ·exact nn c _ z
theorem FpOk.stack {b:Addr} (I:Inv X pins σ H s) (f:FpOk X pins H b):b ∉ rT X.stack:=fun z=>by
 rcases List.mem_cons.mp (I.stkSub b z) with z | z
 ·exact f.2.1 z
 ·exact f.2.2.1 z
theorem FpOk.at_ {b:Addr} (f:FpOk X pins H b) (n:H' b = none):FpOk X pins H' b:=⟨n,f.2⟩
structure SK (X:Cx) (pins:List (Addr × Obj)) (σ:St) (H:Hp) (D kS:Addr) (e1:Nat) (ks:List Value) (rk:List RK) (Hi:Hp) (s:Shared):Prop where
 I:Inv X pins σ Hi s
 sm:Same H Hi
 fk:FpOk X pins Hi kS
 fD:FpOk X pins Hi D
 ok:∃ e,s.heap.get? kS = some (seqObj "list" ks.toArray e)
 oD:s.heap.get? D = some (seqObj "list" #[] e1)
 ne:D ≠ kS
 kt:∃ kvs,Vals kvs ks/\KeyTs Hi kvs rk
variable {kf:V->RK} {fv:Value} {D kS:Addr} {e1:Nat}
def xg (X:Cx) (A:Around) (fv:Value) (H:Hp) (kf:V->RK) (x:V):Prop:=∀ (s:Shared) (Hi:Hp) (u:Value),Env0 X.prog X.w X.K X.mg X.base A X.stack s Hi->X.K.In s.heap->Same H Hi->RelV x u ->
 wpAny (model X.prog X.w) A (call fv [u]) (fun v s'=>CE X.stack X.prog X.w Hi s (fun v H2=>∃ a,v = .ref a/\Same Hi H2/\H2 a = some (.tup [.str (kf x).1,.int (kf x).2])) v s') (fun _ _=>False) s
theorem D6 (hA : A.frames = X.A.frames) {ks : List Value} {rk : List RK} {Hi : Hp} {xv : V} (S : SK X pins σ H D kS e1 ks rk Hi s) (hk : xg X A fv H kf xv) (ru : RelV xv u)
    (hz:ks.length < 100000) {R:Shared->Prop} (q:∀ kv MN Hj s',MN = ks ++ [kv]->SK X pins σ H D kS e1 MN (rk ++ [kf xv]) Hj s'->R s') :
    wpAny (model X.prog X.w) A (call fv [u]) (fun v s1=>wpAny (model X.prog X.w) A (Builtin.List.listUpdate (.ref kS) (·.push v)) (fun _ s2=>R s2) E s1) (fun _ _=>False) s:=by
 have e0:Env0 X.prog X.w X.K X.mg X.base A X.stack s Hi:=⟨hA.trans S.I.ok.frames,S.I.env0.mod,S.I.env0.bs,S.I.env0.bsz,S.I.env0.funs,S.I.env0.frf,S.I.env0.hok,S.I.env0.bare⟩;refine wpAny_mono (hk s Hi u e0 S.I.kIn S.sm ru) (fun v s' hq=>?_) fun _ _ z=>z
 obtain ⟨Y2,Hj,os,bare,un,hok,Vr,a,rfl,sj,hj⟩:=hq;obtain rfl:v = Value.ref a:=Vr;have I2:Inv X pins σ Hj s':=S.I.call' os un hok bare (ch:=[]) (fun b z=>absurd z (by simp))
 obtain ⟨e,ok⟩:=S.ok;have gk:=un.keep kS _ ok S.fk.1 (S.fk.stack S.I) (by simp);have gD:=un.keep D _ S.oD S.fD.1 (S.fD.stack S.I) (by simp);have nk:=un.free kS _ ok S.fk.1 (by simp);have nD:=un.free D _ S.oD S.fD.1 (by simp);refine listUpdate_at gk rfl ?_ (by rw [List.size_toArray,sizeLine_eq];omega) (by rw [Array.size_push,List.size_toArray,sizeLine_eq];omega);have ep:(ks.toArray).push (.ref a) = (ks ++ [Value.ref a]).toArray:=by simp
 have T4:=get?_update_seq gk (·.push (Value.ref a));rw [ep] at T4;obtain ⟨_,g1,g2,g3,g4,g5⟩:=S.fk;obtain ⟨kvs,Vo,kt⟩:=S.kt;refine q (.ref a) _ Hj { s' with heap:=s'.heap.update kS (Obj.mapSeq (·.push (Value.ref a))) } rfl ⟨?_,fun b o e=>sj b o (S.sm b o e),(S.fk.at_ nk),(S.fD.at_ nD),⟨_,T4⟩,?_,S.ne,⟨kvs ++ [.ref a],Vo.append (.cons (show RelV (V.ref a) (Value.ref a) from rfl) .nil),(kt.same sj).snoc ⟨a,rfl,hj⟩⟩⟩
 ·exact I2.turned (t':=s'.toks) (it:=kS) (fun b o hb e=>by rw [Heap.get?_update_other _ _ (Ne.symm hb)];exact e) nk g1 g3 g4 g5
 ·rw [Heap.get?_update_other _ _ (Ne.symm S.ne)];exact gD
end
end L2
namespace L2
open PySem PySem.Spec PySem.W PyProof.Rows TS
variable {X:Cx} {H Hi:Hp} {A:Around} {kf:V->RK} {ks us:List Value} {α β:Type} {xs:List V}
section
variable {pins:List (Addr × Obj)} {σ:St} {s:Shared} {E:Value->Shared->Prop}
variable {fv:Value} {D kS:Addr} {e1:Nat}
theorem rL (hA : A.frames = X.A.frames) {body : Value -> PUnit -> Sem (ForInStep PUnit)}
    (hb:∀ u (s:Shared) (R:Shared->Prop),wpAny (model X.prog X.w) A (call fv [u]) (fun v s1=>wpAny (model X.prog X.w) A (Builtin.List.listUpdate (.ref kS) (·.push v)) (fun _ s2=>R s2) E s1) (fun _ _=>False) s->wpAny (model X.prog X.w) A (body u ⟨⟩) (fun r s'=>r = .yield ⟨⟩/\R s') E s) :
    ∀ {xs:List V} {us ks:List Value} {rk:List RK} {Hi:Hp} {s:Shared},Vals xs us->(∀ y ∈ xs,xg X A fv H kf y)->ks.length + us.length < 100000->SK X pins σ H D kS e1 ks rk Hi s ->
     wpAny (model X.prog X.w) A (forIn us PUnit.unit body) (fun _ s'=>∃ MN Hj,SK X pins σ H D kS e1 MN (rk ++ xs.map kf) Hj s'/\MN.length = ks.length + us.length) E s
 | [],us,ks,rk,Hi,s,r,_,_,S=>by
  cases r
  rw [List.forIn_nil];exact wpAny_pure ⟨ks,Hi,by rw [List.map_nil,List.append_nil];exact S,rfl⟩
 | y :: xs,us,ks,rk,Hi,s,r,hk,hz,S=>by
  cases r with
  | @cons _ u _ us r1 r2 =>
   rw [List.length_cons] at hz;rw [List.forIn_cons];refine wpAny_bind (wpAny_mono (hb u s (fun s'=>∃ kv Hj,SK X pins σ H D kS e1 (ks ++ [kv]) (rk ++ [kf y]) Hj s') (D6 hA S (hk y List.mem_cons_self) r1 (by omega) fun kv MN Hj s' e S'=>⟨kv,Hj,e ▸ S'⟩)) (fun r s' hq=>?_) fun _ _ z=>z)
   obtain ⟨rfl,kv,Hj,S'⟩:=hq;refine wpAny_mono (rL hA hb r2 (fun z PH=>hk z (List.mem_cons_of_mem _ PH)) (by rw [List.length_append,List.length_singleton];omega) S') (fun _ s2 ⟨VQ,Hk,S2,l2⟩=>⟨VQ,Hk,?_,?_⟩) fun _ _ z=>z
   ·rw [List.map_cons,<- List.singleton_append,<- List.append_assoc];exact S2
   ·rw [l2,List.length_append,List.length_singleton,List.length_cons];omega
theorem rh {st : SortSt} {out : List Value} {xs' : List V} {rk : List RK} (uf : (arrOf st).map (·.2) = out.toArray) (hz : out.length < 100000) (hkz : ks.length < 100000) (hf : failedOf st = none) (S : SK X pins σ H D kS e1 ks rk Hi s) (rv : Vals xs' out)
    {R:PySem.Fin->Shared->Prop} (q:∀ s' H1,Inv X pins σ H1 s'->Same H H1->H1 D = some (.lst xs')->R (.done (.ret .none)) s'):wpAny (model X.prog X.w) A (ksk_tail D false e1 (.ref kS) st) R E s:=by
 obtain ⟨e,ok⟩:=S.ok;obtain ⟨_,g1,g2,g3,g4,g5⟩:=S.fk;unfold ksk_tail;dsimp only;rw [uf];refine wpAny_bind (listUpdate_at ok rfl ?_ (by rw [List.size_toArray,sizeLine_eq];omega) (Nat.zero_le _));have I2:Inv X pins σ Hi { s with heap:=s.heap.update kS (Obj.mapSeq fun _=>#[]) }:=S.I.turned (t':=s.toks) (it:=kS) (fun b o hb e=>by rw [Heap.get?_update_other _ _ (Ne.symm hb)];exact e) S.fk.1 g1 g3 g4 g5
 have gD:(s.heap.update kS (Obj.mapSeq fun _=>#[])).get? D = some (seqObj "list" #[] e1):=by rw [Heap.get?_update_other _ _ (Ne.symm S.ne)];exact S.oD
 refine wpAny_bind (wpAny_letGo (wpAny_bind (seqEpoch_at gD rfl ?_)));refine wpAny_bind (listUpdate_at gD rfl ?_ (Nat.zero_le _) (by show out.toArray.size <= _;rw [List.size_toArray,sizeLine_eq];omega));rw [hf];simp only [bne_self_eq_false,Bool.false_eq_true,if_false];have gE:=get?_update_seq gD fun _=>out.toArray
 have I3:Inv X pins σ (upd Hi D (.lst xs')) { s with heap:=(s.heap.update kS (Obj.mapSeq fun _=>#[])).update D (Obj.mapSeq fun _=>out.toArray) } :=
  I2.adopt (t':=s.toks) S.fD (fun b o hb e=>by rw [Heap.get?_update_other _ _ (Ne.symm hb)];exact e) ⟨by rw [rv.length,sizeLine_eq];omega,out,_,rv,gE⟩
 refine wpAny_pure (q _ _ I3 (fun b o e=>?_) ak);have h1:=S.sm b o e;rw [aj (fun z=>by rw [z,S.fD.1] at h1;cases h1)];exact h1
def mP (Hi:Hp) (x:Keyed):RK:=match x.1 with
 | .ref a=>match Hi a with
  | some (.tup [.str k1,.int k2])=>(k1,k2)
  | _=>(⟨#[]⟩,0)
 | _=>(⟨#[]⟩,0)
theorem nC {v:V} {u i:Value} {k:RK} (h:KeyT Hi v k) (r:RelV v u):mP Hi (u,i) = k:=by
 obtain ⟨a,rfl,ha⟩:=h;obtain rfl:u = Value.ref a:=r;unfold mP;dsimp only;rw [ha]
theorem xF {Hi:Hp}:∀ {vs:List V} {rk:List RK} {ks us:List Value},KeyTs Hi vs rk->Vals vs ks->ks.length = us.length->(ks.zip us).map (mP Hi) = rk
 | [],[],ks,us,_,r,_=>by cases r;rfl
 | v :: vs,k :: rk,ks,us,h,r,hl=>by
  cases r with
  | @cons _ u _ ks r1 r2 =>
   cases us with
   | nil=>simp at hl
   | cons i us =>
    rw [List.zip_cons_cons,List.map_cons,nC h.1 r1,xF h.2 r2 (by simpa using hl)]
 | [],_ :: _,_,_,h,_,_=>h.elim
 | _ :: _,[],_,_,h,_,_=>h.elim
theorem sM {Hi:Hp}:∀ {vs:List V} {rk:List RK} {ks us:List Value} {x:Keyed},KeyTs Hi vs rk->Vals vs ks->x ∈ ks.zip us->∃ v k,KeyT Hi v k/\RelV v x.1
 | [],[],ks,us,x,_,r,hx=>by cases r;simp at hx
 | v :: vs,k :: rk,ks,us,x,h,r,hx=>by
  cases r with
  | @cons _ u _ ks r1 r2 =>
   cases us with
   | nil=>simp at hx
   | cons i us =>
    rw [List.zip_cons_cons] at hx
    rcases List.mem_cons.mp hx with rfl | hx
    ·exact ⟨v,k,h.1,r1⟩
    ·exact sM h.2 r2 hx
 | [],_ :: _,_,_,_,h,_,_=>h.elim
 | _ :: _,[],_,_,_,h,_,_=>h.elim
theorem mh {α β:Type} {f:α->β}:∀ {l:List α},(l.map f).Nodup->∀ {x y:α},x ∈ l->y ∈ l->f x = f y->x = y
 | a :: l,nd,x,y,hx,hy,e=>by
  rw [List.map_cons,List.nodup_cons] at nd
  rcases List.mem_cons.mp hx with h1 | h1 <;> rcases List.mem_cons.mp hy with h2 | h2
  ·rw [h1,h2]
  ·exact absurd (by rw [<- h1,e];exact List.mem_map.mpr ⟨y,h2,rfl⟩) nd.1
  ·exact absurd (by rw [<- h2,<- e];exact List.mem_map.mpr ⟨x,h1,rfl⟩) nd.1
  ·exact mh nd.2 h1 h2 e
theorem bx {α β:Type} {f:α->β}:∀ {l:List α},(l.map f).Nodup->l.Nodup
 | [],_=>List.nodup_nil
 | a :: l,nd=>by
  rw [List.map_cons,List.nodup_cons] at nd;exact List.nodup_cons.mpr ⟨fun h=>nd.1 (List.mem_map.mpr ⟨a,h,rfl⟩),bx nd.2⟩
theorem perm_lift {f:α->β} {l m:List β} (h:l.Perm m):∀ L:List α,m = L.map f->∃ L':List α,L'.Perm L/\l = L'.map f:=by
 induction h with
 | nil=>exact fun L e=>⟨[],by cases L with | nil=>exact .nil | cons _ _=>simp at e,rfl⟩
 | cons x p ih =>
  intro L e
  cases L with
  | nil=>simp at e
  | cons a L =>
   rw [List.map_cons,List.cons.injEq] at e;obtain ⟨L',h1,h2⟩:=ih L e.2;exact ⟨a :: L',h1.cons a,by rw [List.map_cons,<- h2,e.1]⟩
 | swap x y l =>
  intro L e
  match L,e with
  | a :: b :: L,e =>
   simp only [List.map_cons,List.cons.injEq] at e;exact ⟨b :: a :: L,List.Perm.swap a b L,by simp only [List.map_cons,List.cons.injEq];exact ⟨e.2.1,e.1,e.2.2⟩⟩
 | trans p q VV VU =>
  intro L e;obtain ⟨L1,h1,h2⟩:=VU L e;obtain ⟨L2,h3,h4⟩:=VV L1 h2;exact ⟨L2,h3.trans h1,h4⟩
theorem M9 {Hi:Hp} {kf:V->RK}:∀ {xs kvs:List V} {ks us:List Value},Vals xs us->KeyTs Hi kvs (xs.map kf)->Vals kvs ks->∃ L:List (Keyed × V),L.map (·.1) = ks.zip us/\L.map (·.2) = xs/\∀ t ∈ L,RelV t.2 t.1.2/\mP Hi t.1 = kf t.2
 | [],[],ks,us,r,_,r2=>by
  cases r;cases r2
  exact ⟨[],rfl,rfl,fun t h=>absurd h (by simp)⟩
 | x :: xs,v :: kvs,ks,us,r,h,r2=>by
  cases r with
  | @cons _ u _ us a1 a2 =>
   cases r2 with
   | @cons _ k _ ks b1 b2 =>
    obtain ⟨L,h1,h2,h3⟩:=M9 a2 h.2 b2;refine ⟨((k,u),x) :: L,by rw [List.map_cons,h1,List.zip_cons_cons],by rw [List.map_cons,h2],fun t ht=>?_⟩
    rcases List.mem_cons.mp ht with rfl | ht
    ·exact ⟨a1,nC h.1 b1⟩
    ·exact h3 t ht
 | [],_ :: _,_,_,_,h,_=>h.elim
 | _ :: _,[],_,_,_,h,_=>h.elim
theorem uV {α:Type} {f:α->V} {g:α->Value}:∀ {l:List α},(∀ t ∈ l,RelV (f t) (g t))->Vals (l.map f) (l.map g)
 | [],_=>.nil
 | a :: l,h=>.cons (h a List.mem_cons_self) (uV fun t ht=>h t (List.mem_cons_of_mem _ ht))
def j5 (kf:V->RK) (xs:List V):Prop:=xs.Pairwise fun a b=>fX (kf a) (kf b) = true
theorem Ml {kvs : List V} {rk : List RK} (I : Inv X pins σ Hi s) (kt : KeyTs Hi kvs rk) (rv : Vals kvs ks) (hl : ks.length = us.length) (nd : rk.Nodup) :
    uT X.prog X.w A s (tuples' true) (fun x=>x ∈ ks.zip us) (fun x y=>fX (mP Hi x) (mP Hi y)) where
 ask:=fun x y hx hy C q=>by
  obtain ⟨v,k,h1,r1⟩:=sM kt rv hx;obtain ⟨v',k',h2,r2⟩:=sM kt rv hy;refine MA I h1 h2 r1 r2 ?_;rw [show mP Hi x = k from nC (i:=x.2) h1 r1,show mP Hi y = k' from nC (i:=y.2) h2 r2] at q;exact q
 tot:=fun x y hx hy ne e=>DY (fun z=>ne (mh (by rw [xF kt rv hl];exact nd) hx hy z)) e
 Ya:=fun x y _ _ e=>vV e
 trans:=fun x y z _ _ _ e1 e2=>oz e1 e2
theorem CK (S : SK X pins σ H D kS e1 ks (xs.map kf) Hi s) (r : Vals xs us) (hl : ks.length = us.length) (hz : us.length < 100000) (nd : (xs.map kf).Nodup)
    {R:PySem.Fin->Shared->Prop} (q:∀ xs' s' H1,xs'.Perm xs->j5 kf xs'->Inv X pins σ H1 s'->Same H H1->H1 D = some (.lst xs')->R (.done (.ret .none)) s'):wpAny (model X.prog X.w) A (ksk_end D false us.toArray e1 (.ref kS) ks.toArray) R E s:=by
 have hx:=r.length;unfold ksk_end;dsimp only;simp only [Bool.false_eq_true,if_false]
 by_cases h2:us.toArray.size < 2
 ·rw [if_pos h2,if_pos h2];refine wpAny_bind (wpAny_pure (wpAny_bind (wpAny_pure ?_)));dsimp only;rw [List.size_toArray] at h2;refine rh (out:=us) (xs':=xs) ?_ hz (by omega) rfl S r fun s' H1 a b c=>q xs s' H1 (List.Perm.refl _) ?_ a b c
  ·show ((ks.toArray).zip us.toArray).map (·.2) = us.toArray;apply Array.toList_inj.mp;simp [List.map_snd_zip,hl]
  ·unfold j5
   match xs,hx with
   | [],_=>exact List.Pairwise.nil
   | [a],_=>exact List.pairwise_singleton _ _
   | a :: b :: l,hx=>rw [List.length_cons,List.length_cons] at hx;omega
 ·rw [if_neg h2,if_neg h2];rw [List.size_toArray] at h2;obtain ⟨kvs,rv,kt⟩:=S.kt;have Ou:(xs.map kf).length = us.length:=by rw [List.length_map,hx]
  refine wpAny_bind (E3 S.I kt rv (by omega) ?_);have ez:((ks.toArray).zip us.toArray).toList = ks.zip us:=by simp
  have M6:((ks.toArray).zip us.toArray).size = us.length:=by simp [hl]
  have C:=Ml (A:=A) (us:=us) S.I kt rv hl nd;have G:Gd (fun x=>x ∈ ks.zip us) ((ks.toArray).zip us.toArray):=⟨fun x hx=>by rw [ez] at hx;exact hx,by rw [ez];exact bx (f:=mP Hi) (by rw [xF kt rv hl];exact nd)⟩
  refine wpAny_bind (wpAny_mono (show wpAny (model X.prog X.w) A (sortRuns'.run (SortSt.mk' (tuples' true) ((ks.toArray).zip us.toArray) #[] 7 none)) _ E s from Fp (E:=E) C G (by omega) (g:=7) (Q:=fun _ st=>∃ arr p g,st = Ms (tuples' true) arr p g/\arr.Perm ((ks.toArray).zip us.toArray)/\Ups (fun x y=>fX (mP Hi x) (mP Hi y)) arr 0 us.length) fun arr p g a1 a2=>⟨arr,p,g,rfl,a1,by rw [M6] at a2;exact a2⟩) ?_ fun _ _ z=>z)
  rintro ⟨⟨⟩,st⟩ s' ⟨rfl,arr,p,g,e,pm,up⟩;dsimp only at e;subst e;dsimp only;have Px:=Array.perm_iff_toList_perm.mp pm;rw [ez] at Px;obtain ⟨L,l1,l2,l3⟩:=M9 r kt rv;obtain ⟨L',p1,p2⟩:=perm_lift Px L l1.symm;have LA:∀ t ∈ L',RelV t.2 t.1.2/\mP Hi t.1 = kf t.2:=fun t ht=>l3 t (p1.mem_iff.mp ht)
  have uf:(arrOf (Ms (tuples' true) arr p g)).map (·.2) = (L'.map fun t=>t.1.2).toArray:=by
   apply Array.toList_inj.mp;rw [Array.toList_map];show arr.toList.map (·.2) = _;rw [p2,List.map_map]
   rfl
  have len:L'.length = us.length:=by
   have:=congrArg List.length p2;rw [List.length_map,Array.length_toList,pm.size_eq,M6] at this;exact this.symm
  refine rh (out:=L'.map fun t=>t.1.2) (xs':=L'.map (·.2)) uf (by rw [List.length_map];omega) (by omega) rfl S (uV fun t ht=>(LA t ht).1) fun s' H1 a b c=>q _ s' H1 ?_ ?_ a b c
  ·rw [<- l2];exact p1.map _
  ·unfold j5;rw [List.pairwise_map];have sz:0 + us.length <= arr.size:=by rw [pm.size_eq,M6];omega
   have:=up.srt sz;rw [List.drop_zero,List.take_of_length_le (by rw [Array.length_toList,pm.size_eq,M6];exact Nat.le_refl _),p2] at this;have:=List.pairwise_map.mp this;exact this.imp_of_mem fun {a b} ha hb h=>by
    dsimp only at h;rw [(LA a ha).2,(LA b hb).2] at h;exact h
end
section
variable {pins:List (Addr × Obj)} {σ:St} {s:Shared} {E:Value->Shared->Prop}
variable {fv:Value} {D kS:Addr} {e1:Nat}
theorem Ad (hA : A.frames = X.A.frames) (S : SK X pins σ H D kS e1 [] [] H s) (r : Vals xs us) (hk : ∀ y ∈ xs, xg X A fv H kf y) (hz : us.length < 100000) (nd : (xs.map kf).Nodup)
    {R:PySem.Fin->Shared->Prop} (q:∀ xs' s' H1,xs'.Perm xs->j5 kf xs'->Inv X pins σ H1 s'->Same H H1->H1 D = some (.lst xs')->R (.done (.ret .none)) s'):wpAny (model X.prog X.w) A (ksk_rest D fv false us.toArray e1 (.ref kS)) R E s:=by
 unfold ksk_rest;refine wpAny_bind (wpAny_rule ?_);rw [List.forIn_toArray];refine wpAny_bind (wpAny_mono (rL (E:=E) hA (fun u s R h=>?_) r hk (by simpa using hz) S) (fun _ s' hq=>?_) fun _ _ z=>z)
 ·refine wpAny_bind (wpAny_attempt (wpAny_mono h (fun v s1 h1=>?_) fun _ _ z=>z.elim))
  exact wpAny_bind (wpAny_mono h1 (fun _ s2 h2=>wpAny_pure ⟨rfl,h2⟩) fun _ _ z=>z)
 ·obtain ⟨ks,Hj,S',hl⟩:=hq;obtain ⟨e,ok⟩:=S'.ok;refine wpAny_bind (listItems_at ok rfl ?_);refine CK S' r (by simpa using hl) hz nd fun xs' s' H1 a b c d f=>q xs' s' H1 a b c d f
theorem Ac {p : Addr} {kw : List (Str × Value)} (I : Inv X pins σ H s) (r : Vals xs us) (hp : s.heap.IsList p us.toArray) (hk : ∀ y ∈ xs, xg X X.A.in1.in1 fv H kf y) (hz : xs.length < 100000) (nd : (xs.map kf).Nodup)
    (xE:argsOk "sorted" { pos:=[.ref p],kw:=kw }) (uR:∀ x:Addr,argsOk "list.sort" { pos:=[.ref x],kw:=kw }) (ht:∀ x:Addr,Builtin.«list.sort» { pos:=[.ref x],kw:=kw } = ksk_tree x fv false) {Q:VK}
    (q:∀ xs' l H1,xs'.Perm xs->j5 kf xs'->H l = none->Same H H1->H1 l = some (.lst xs')->Q (.ref l) H1) :
    wpAny (model X.prog X.w) X.A (call (.builtin "sorted") [.ref p] kw) (EP X pins σ Q) E s:=by
 have hz:us.length < 100000:=by rw [<- r.length];exact hz
 have hl:=sizeLine_eq;refine call_function_entry_kw kind_sorted plain_sorted entry_sorted xE ?_;show wpAny _ _ (checkCount "sorted" 1 1 1 >>= _) _ _ _;refine wpAny_bind (wpAny_pure ?_);refine wpAny_bind (collect_list hp ?_ (by omega));refine wpAny_bind (wpAny_newList ?_ (by omega));generalize PU:(s.heap.push (seqObj "list" #[] 0)).update s.heap.objs.size (Obj.mapSeq fun x=>x ++ us.toArray) = h1
 have k1:∀ b u,s.heap.get? b = some u->h1.get? b = some u:=fun b u e=>by
  rw [<- PU,Heap.get?_update_other _ _ (Nat.ne_of_gt (Heap.lt_size e))];exact Heap.get?_push_of_some _ e
 have z1:h1.objs.size = s.heap.objs.size + 1:=by rw [<- PU,Heap.size_update,size_push']
 dsimp only;obtain ⟨D,hD⟩:∃ D,h1.objs.size = D:=⟨_,rfl⟩
 rw [hD];have gD:(h1.push ⟨.type "list",none,.seq us.toArray 0,#[]⟩).get? D = some (seqObj "list" us.toArray 0):=by
  rw [<- hD];exact Heap.get?_push_size _ rfl
 refine wpAny_bind (wpAny_holding (wpAny_call_entry_kw slot_list_sort ⟨_,gD,rfl⟩ entry_list_sort ?_ (uR D)));rw [ht];unfold ksk_tree;refine wpAny_bind (listItems_at gD rfl ?_);refine wpAny_bind (listUpdate_at gD rfl ?_ (by rw [List.size_toArray];omega) (Nat.zero_le _));have RX:=get?_update_seq gD fun _=>#[]
 refine wpAny_bind (seqEpoch_at RX rfl ?_);generalize (if ((#[]:Array Value).size == us.toArray.size) = true then 0 else 0 + 1) = e1 at RX
 refine wpAny_bind (wpAny_newTuple ?_ (by simp;omega));refine wpAny_bind (wpAny_newList ?_ (Nat.zero_le _));refine wpAny_holding ?_;have PX:s.heap.objs.size < D:=by rw [<- hD,z1];exact Nat.lt_succ_self _
 have Xa:∀ o1 o2,(((((h1.push ⟨.type "list",none,.seq us.toArray 0,#[]⟩).update D (Obj.mapSeq fun _=>#[])).push o1).push o2).get? D) = some (seqObj "list" #[] e1):=fun o1 o2=>Heap.get?_push_of_some _ (Heap.get?_push_of_some _ RX)
 have k5:∀ o1 o2 b u,s.heap.get? b = some u->(((((h1.push ⟨.type "list",none,.seq us.toArray 0,#[]⟩).update D (Obj.mapSeq fun _=>#[])).push o1).push o2).get? b) = some u:=fun o1 o2 b u e=>by
  refine Heap.get?_push_of_some _ (Heap.get?_push_of_some _ ?_);rw [Heap.get?_update_other _ _ (Nat.ne_of_gt (Nat.lt_trans (Heap.lt_size e) PX))];exact Heap.get?_push_of_some _ (k1 b u e)
 refine Ad (A:=X.A.in1.in1) (H:=H) rfl ⟨I.kept (t':=s.toks) (k5 _ _),fun _ _ e=>e,I.fpOk ?_ (I.hok.fresh ?_),I.fpOk (Nat.le_of_lt PX) (I.hok.fresh (Nat.le_of_lt PX)),⟨0,Heap.get?_push_size _ rfl⟩,Xa _ _,?_,⟨[],.nil,trivial⟩⟩ r hk hz nd fun xs' s' H1 a b c d e=>⟨.none,rfl,?_⟩
 ·rw [size_push',Heap.size_update,size_push'];omega
 ·rw [size_push',Heap.size_update,size_push'];omega
 ·rw [size_push',Heap.size_update,size_push',hD];exact Nat.ne_of_lt (Nat.lt_succ_of_lt (Nat.lt_succ_self D))
 ·exact wpAny_pure ⟨.ref D,rfl,.ref D,H1,c,rfl,q xs' D H1 a b (I.hok.fresh (Nat.le_of_lt PX)) d e⟩
end
section
variable {a:Expr} {x:Str} {p pos:Pos} {kpos:Pos} {ke:Expr} {t:TA} {tk:TE}
def nY (X:Cx):List V->V->Hp->VK->Prop:=fun vs f H Q=>∃ pl xs kf fa,vs = [.ref pl]/\f = .ref fa/\SqL X.K H pl xs/\xs.length < 100000/\(xs.map kf).Nodup/\(∀ y ∈ xs,xg X X.A.in1.in1 (.ref fa) H kf y) /\
 ∀ xs' l H1,xs'.Perm xs->j5 kf xs'->H l = none->Same H H1->H1 l = some (.lst xs')->Q (.ref l) H1
def xM (X:Cx) (t:TA) (tk:TE):TE:=fun σ H Q=>t σ H fun vs H1=>tk σ H1 fun f H2=>nY X vs f H2 Q
theorem Dx (hm:X.mg "sorted" = none) (ha:PA X [a] t) (hk:PE X ke tk) (hg:Gl X "sorted":=by rfl) (h1:isStar a = false:=by rfl):PE X (.Call (.Name "sorted" p) [a] [⟨some "key",ke,kpos⟩] pos) (xM X t tk):=by
 intro pins s σ H Q I h;refine wpAny_Call_Name_kw (lH I hg hm boot_sorted ?_ (by decide) (by decide));refine callWith_builtin_kwB (by rw [aG h1];rfl) rfl ?_;rw [aG h1];have hs:wpAny (model X.prog X.w) X.A (spliced (backTo pos ((false,eval a X.env) :: starEach [] X.env))) (AP X pins σ fun vs H1=>tk σ H1 fun f H2=>nY X vs f H2 Q) X.xe s:=by
  rw [<- aG h1];exact ha pos pins s σ H _ I h
 refine evalArgs_kwB rfl (bw hs fun us s1 ⟨vs,H1,I1,r1,q1⟩=>?_);refine bw ((Gy (nm:=some "key") (kpos:=kpos) hk K1) pos pins s1 σ H1 (fun zs H2=>match zs with | [f]=>nY X vs f H2 Q | _=>False) I1 q1) fun ws s2 ⟨zs,H2,I2,rz,q2⟩=>?_
 match zs,rz,q2 with
 | [f],rz,q2 =>
  obtain ⟨u,rfl,ru⟩:=vals1 rz;obtain ⟨pl,xs,kf,fa,rfl,rfl,hl,hz,nd,hk,q⟩:=q2;obtain ⟨u1,rfl,Vp⟩:=vals1 r1;obtain rfl:u = Value.ref fa:=ru;obtain rfl:u1 = Value.ref pl:=Vp;obtain ⟨its,r',pp,_⟩:=I2.list hl;exact Ac I2 r' pp.isList hk hz nd (ksk_s1 _ _) (fun x=>ksk_l1 _ _) (fun x=>ksk_t1 _ _) q
theorem zJ (hm:X.mg "sorted" = none) (ha:BA X [a] t) (hk:BE X ke tk) (hg:Gl X "sorted":=by rfl) (h1:isStar a = false:=by rfl):BE X (.Call (.Name "sorted" p) [a] [⟨some "key",ke,kpos⟩] pos) (xM X t tk):=⟨Dx hm ha.h hk.h hg h1⟩
theorem HJ {k : Nat} {f : Addr} {fd : FuncData} {ps : List Str} {sp : Sp} {nm : Str} {sf : Stmt} (N : Fn X.K X.mg nm sf ps f fd) (G : FnOk X.prog X.w X.K X.mg X.base bR k f fd ps sp) (hr : Room k A) {y : V}
    (hk:∀ H1,Same H H1->∀ R:VK,(∀ a H2,Same H1 H2->H2 a = some (.tup [.str (kf y).1,.int (kf y).2])->R (.ref a) H2)->sp [y] H1 R E0):xg X A (.ref f) H kf y:=by
 intro s Hi u e0 kin sm ru;have we:=hk Hi sm (fun v H2=>∃ a,v = .ref a/\Same Hi H2/\H2 a = some (.tup [.str (kf y).1,.int (kf y).2])) fun a H2 s2 h2=>⟨a,rfl,s2,h2⟩
 have rv:Vals [y] [u]:=.cons ru .nil;have hl:([u] ++ []).length = ps.length:=by
  have:=G.len _ _ _ _ we;simpa using this
 refine wpAny_call (codeAny_mono (G.run A X.stack s Hi ⟨[u],[]⟩ [u] [y] _ E0 hr e0 (N.bd s [u] kin hl) rv we) fun r s' hq=>?_)
 cases r with
 | error e=>exact hq.elim
 | ok fl =>
  cases fl with
  | ret v=>exact hq
  | next=>exact False.elim hq
  | brk=>exact False.elim hq
  | cont=>exact False.elim hq
end
end L2
namespace L2
open PySem PySem.Spec PySem.W PyProof.Rows
variable {H:Hp} {P:Program} {w:World} {K:W.Frag} {mg:Str->Option Value} {qual x:Str} {N:List Str} {f:Addr} {k:Nat}
def SameN (H H':Hp):Prop:=∀ b o,H b = some o->(∀ ps,o ≠ .tbl ps)->H' b = some o
theorem SameN.trans {H1 H2:Hp} (a:SameN H H1) (b:SameN H1 H2):SameN H H2:=fun c o e n=>b c o (a c o e n) n
def xa (qual:Str) (params:Arguments) (body:Expr) (scope:Scope) (f c':Addr) (h:Heap):Prop:=∃ pm iP,h.get? f = some (kla_obj (Str.ofString "<lambda>") qual params body scope [] pm c' iP)
def fj (qual:Str) (c':Addr) (h:Heap):Prop:=h.CodeRec (.ref c') qual
section
variable {base:Heap}
theorem HG {params : Arguments} {body : Expr} {scope : Scope} {ps : List Str} {c' : Addr} {A : Around} {outer : List Env} {s : Shared} {us : List Value} {vs : List V} {Q : VK} (S : ao N ps scope) (hr : Room (k + 1) A) (e0 : Env0 P w K mg base A outer s H)
    (hf:H f = some (.ext (xa qual params body scope f c'))) (hc:H c' = some (.ext (fj qual c'))) (hb:∀ pm iP,bindArgs (kla_fn (Str.ofString "<lambda>") qual params body scope [] pm (.ref c') iP) ⟨us,[]⟩ = pure (ps.zip us)) (hl:vs.length = ps.length) (r:Vals vs us)
    (du:Room k (A.deeper (envOfC qual scope s.heap.objs.size f (.ref c')))->∃ t,BE (gc bR P w K mg base N qual scope f (.ref c') A outer s H E0).nox body t/\t (start N vs) H Q) :
    wpAny (model P w) A (call (.ref f) us) (CE outer P w H s Q) (fun _ _=>False) s:=by
 obtain ⟨pm,iP,gf⟩:=(e0.hok f _ hf).1;have OD:s.heap.CodeRec (.ref c') qual:=(e0.hok c' _ hc).1;have lim:s.heap.NoLimit:=e0.mod.nolimit.keeps fun b o e=>(e0.bs b o e).1
 have wk:∀ y ∈ ps.zip us,scope.names.lookup y.1 = some .local \/ (scope.names.lookup y.1 = some .cell/\((cellsFrom (s.heap.objs.size + 1) scope.names []).lookup y.1).isSome = true):=fun ⟨n,v⟩ hy=>by
  rcases S.par n (List.of_mem_zip hy).1 with q | q
  ·exact .inl q
  ·exact .inr ⟨q,W.cellsFrom_some _ _ _ (.inl q)⟩
 refine wpAny_call (kla_callFunE hr.depth gf rfl S.co S.gen rfl OD ?_);rw [hb];refine wpAny_pure (wpAny_newFunctionEnv_cells S.kind wk fun env he s1 x=>?_);subst he;refine ⟨lim.keeps x.toInCall.keep,kla_codeExpr ?_⟩;obtain ⟨t,ht,hq⟩:=du (hr.deeper _);have I:Inv (gc bR P w K mg base N qual scope f (.ref c') A outer s H E0) [] (start N vs) H s1:=lJ S hr.hd e0 hl r x;exact wpAny_mono (ht.h [] s1 (start N vs) H Q (I.wish _) hq) (fun v s' ⟨v',H',J,rv,q⟩=>⟨v',H',J.unwish.os,J.unwish.bare,J.unwish.base,J.unwish.hok,rv,q⟩) fun _ _ z=>False.elim z
end
section
variable {base:Heap}
theorem Fun.okC {st : Stmt} {fd : FuncData} {ps : List Str} {sp : Sp} (F : Fun K x qual st f fd) (S : ao N ps (ab st)) (len : ∀ vs H Q E, sp vs H Q E -> vs.length = ps.length)
    (du:∀ (aT:Value) (A:Around) (outer:List Env) (s:Shared) (H:Hp) (vs:List V) (Q:VK) (E:XK),fd.code = aT->Room k (A.deeper (envOfC qual (ab st) s.heap.objs.size f aT))->sp vs H Q E ->
     ∃ t,BD (gc bR P w K mg base N qual (ab st) f aT A outer s H E).nox (aS st) t/\t { nx:=fun _ H'=>Q .non H',rt:=Q } (start N vs) H):FnOk P w K mg base bR (k + 1) f fd ps sp:=by
 obtain ⟨oc,od,kV,doc,pm,an,aT,ct,yl,rfl,lk,jF⟩:=F.ex;refine Ep lk jF S len fun A outer s H vs Q E hr we=>?_
 obtain ⟨t,h,q⟩:=du aT A outer s H vs Q E rfl hr we;exact ⟨t,h.h.nox,q⟩
end
section
variable {X:Cx} {kf:V->RK}
theorem D3 {A : Around} {params : Arguments} {body : Expr} {scope : Scope} {p : Str} {c' : Addr} {y : V} (S : ao N [p] scope) (hr : Room (k + 1) A) (hf : H f = some (.ext (xa qual params body scope f c'))) (hc : H c' = some (.ext (fj qual c')))
    (hb:∀ u pm iP,bindArgs (kla_fn (Str.ofString "<lambda>") qual params body scope [] pm (.ref c') iP) ⟨[u],[]⟩ = pure [(p,u)])
    (du:∀ (s:Shared) (Hi:Hp),Same H Hi->Room k (A.deeper (envOfC qual scope s.heap.objs.size f (.ref c')))->∃ t,BE (gc bR X.prog X.w X.K X.mg X.base N qual scope f (.ref c') A X.stack s Hi E0).nox body t /\
     t (start N [y]) Hi fun v H2=>∃ a,v = .ref a/\Same Hi H2/\H2 a = some (.tup [.str (kf y).1,.int (kf y).2])):xg X A (.ref f) H kf y:=by
 intro s Hi u e0 kin sm ru;exact HG (k:=k) S hr e0 (sm _ _ hf) (sm _ _ hc) (fun pm iP=>hb u pm iP) rfl (.cons ru .nil) fun LU=>du s Hi sm LU
end
def yL (ts:List Addr) (H:Hp):Prop:=∀ p ∈ ts,H p = some (.tbl #[])
theorem AQ {P : Program} {w : World} {mb : Str -> Option Value} {CX : E9} {fa a : Addr} {fd : FuncData} {sp : Sp} {s₁ : Shared} {vs : List Value} {ns : List Int} {ts : List Addr}
    (KX:K.In s₁.heap) (MT:s₁.heap.Ns mainGlobals mg) (hb:s₁.heap.Ns builtinsNs mb) (RH:∀ x:Str,x ≠ "__name__"->mb x = bootBuiltins x) (Rn:s₁.heap.NoLimit) (hg:s₁.gens = #[])
    (ha:s₁.heap.get? a = some { cls:=.type "list",data:=.seq vs.toArray }) (hi:IntsAre vs ns) (hl:ns.length <= sizeLine) (hr:Room k callerA)
    (HU:∀ p ∈ ts,s₁.heap.get? p = some (tabObj #[])) (Wy:∀ p ∈ ts,K.lookup p = none) (WR:∀ p ∈ ts,isCodeTable s₁.heap p) (WW:∀ p ∈ ts,s₁.heap.BuiltinsAt mg p)
    (F:∀ base:Heap,K.In base->base.Ns mainGlobals mg->(∀ p ∈ ts,base.BuiltinsAt mg p)->FnOk P w K mg base CX k fa fd [x] sp) (OF:∀ (s:Shared) (u:Value),BindsTo s fd ⟨[u],[]⟩ [(x,u)])
    (we:∀ H:Hp,yL ts H->SqL K H a (ns.map V.int)->sp [.ref a] H (fun v _=>v = .bl true) fun _ _ _=>False)
    (RT:∀ H e s',CX [] H s₁ (fun _ _ _=>False) e s'->False) :
    codeAny (model P w) callerA (.call (.ref fa) ⟨[.ref a],[]⟩) (fun r s'=>r = .ok (.ret (.bool true))/\OldK s₁.heap s'.heap/\s'.os = s₁.os/\AllBare s'.gens) s₁:=by
 have rv:=qU hi;have QO:=hi.length;have Uv:a ∉ ts:=fun z=>by have:=HU a z;rw [ha] at this;cases this
 have core : ∀ H : Hp, yL ts H -> (∀ b, b ∉ ts -> H b = none \/ (b = a /\ ∃ o xs, H b = some (.frz o (.lst xs)))) -> SqL K H a (ns.map V.int) -> HOk P w H s₁.heap -> (H a ≠ none -> K.lookup a = none) ->
     codeAny (model P w) callerA (.call (.ref fa) ⟨[.ref a],[]⟩) (fun r s'=>r = .ok (.ret (.bool true))/\OldK s₁.heap s'.heap/\s'.os = s₁.os/\AllBare s'.gens) s₁:=by
  intro H hT hO hS hok hK;have uA:∀ {b:Addr} {o:Obj},s₁.heap.get? b = some o->H b = none->(qA s₁.heap H).get? b = some o:=fun e n=>Eh e n
  have no:∀ {b:Addr} {o:Obj},s₁.heap.get? b = some o->b ∉ ts->b ≠ a->H b = none:=fun {b o} e n1 n2=>by
   rcases hO b n1 with z | ⟨z,_⟩
   ·exact z
   ·exact absurd z n2
  have Py:∀ {b:Addr} {m:Str->Option Value},s₁.heap.Ns b m->(qA s₁.heap H).Ns b m:=fun {b m} ⟨o,es,ep,e,d,r⟩=>⟨o,es,ep,uA e (no e (fun z=>by rw [HU b z] at e;cases e;cases d) (fun z=>by rw [z,ha] at e;cases e;cases d)),d,r⟩
  have TU:K.In (qA s₁.heap H):=fun b o e=>uA (KX b o e) (by
   by_cases z:b ∈ ts
   ·rw [Wy b z] at e;cases e
   ·rcases hO b z with q | ⟨q,o',xs,q'⟩
    ·exact q
    ·rw [q] at e q';rw [hK (by rw [q'];simp)] at e;cases e)
  have W8:∀ p ∈ ts,(qA s₁.heap H).BuiltinsAt mg p:=fun p hp=>by
   obtain ⟨bm,o,e1,e2,e3,e4,e5,e6,e7,e8⟩:=WW p hp;refine ⟨bm,o,e1,e2,e3,e4,uA e5 (no e5 (fun z=>?_) fun z=>?_),e6,e7,e8⟩
   ·rw [HU bm z] at e5;cases e5;cases e6
   ·rw [z,ha] at e5
    cases e5
    have Xh:Value.type "list" = Value.type "module":=e6
    injection Xh with h
    exact absurd h (by decide)
  have hM:Mod K mg (qA s₁.heap H):=⟨TU,Py MT,⟨mb,Py hb,RH⟩,let ⟨mc,h1,h2⟩:=Rn;⟨mc,Py h1,h2⟩⟩
  have e0:Env0 P w K mg (qA s₁.heap H) callerA [] s₁ H:=⟨rfl,hM,fun b o e=>Hc e,Nat.le_of_eq (A5 _ _),trivial,fun b hb=>absurd (show b ∈ ([]:List Addr) from hb) (by simp),hok,.of_eq hg⟩
  refine codeAny_mono ((F _ TU (Py MT) W8).run callerA [] s₁ H ⟨[.ref a],[]⟩ [.ref a] [.ref a] _ _ hr e0 (OF s₁ (.ref a)) (.cons rfl .nil) (we H hT hS)) fun r s' h=>?_
  cases r with
  | error e=>exact (RT H e s' h).elim
  | ok fl =>
   cases fl with
   | next=>exact False.elim h
   | brk=>exact False.elim h
   | cont=>exact False.elim h
   | ret u =>
    obtain ⟨v,H',os,bare,un,Oi,r',q⟩:=h;have q':v = .bl true:=q;subst q';obtain rfl:u = Value.bool true:=r';refine ⟨rfl,⟨fun b o e=>?_,fun b o e=>un.there b o e (by simp)⟩,os,bare⟩
    by_cases z:b ∈ ts
    ·obtain ⟨more,e2⟩:=un.tbls b _ (hT b z);have e3:s'.heap.get? b = some (tabObj (#[] ++ more)):=Oi b _ e2;rw [HU b z] at e
     cases e
     exact .inr (.inl ⟨WR b z,rfl,#[],more,rfl,e3⟩)
    ·refine .inl ?_
     rcases hO b z with q | ⟨_,ob,xs,q⟩
     ·exact un.keep b o e q (by intro z;exact absurd (show b ∈ ([]:List Addr) from z) (by simp)) (by simp)
     ·have z2:=un.frzs b ob _ q;obtain ⟨e1,_⟩:=hok b _ q;obtain ⟨e2,_⟩:=Oi b _ z2;rw [e] at e1;cases e1;exact e2
 cases hk:K.lookup a with
 | some o =>
  have e:=KX a o hk;rw [ha] at e
  cases e
  refine core (fun b=>if b ∈ ts then some (.tbl #[]) else none) (fun p hp=>if_pos hp) (fun b hb=>.inl (if_neg hb)) (.inr ⟨_,vs.toArray,_,hk,rfl,rfl,rfl,by rw [List.size_toArray,QO];exact hl,by simpa using rv⟩) (fun b u z=>?_) fun z=>absurd (if_neg Uv) z
  by_cases hb:b ∈ ts
  ·have z':=(if_pos hb).symm.trans z
   cases z'
   exact HU b hb
  ·have z':=(if_neg hb).symm.trans z
   cases z'
 | none =>
  refine core (fun b=>if b ∈ ts then some (.tbl #[]) else if b = a then some (.frz { cls:=.type "list",data:=.seq vs.toArray } (.lst (ns.map V.int))) else none) (fun p hp=>if_pos hp) (fun b hb=>?_) (.inl (.inr ⟨{ cls:=.type "list",data:=.seq vs.toArray },(if_neg Uv).trans (if_pos rfl)⟩)) (fun b u z=>?_) fun _=>hk
  ·by_cases Fm:b = a
   ·exact .inr ⟨Fm,_,_,(if_neg hb).trans (if_pos Fm)⟩
   ·exact .inl ((if_neg hb).trans (if_neg Fm))
  ·by_cases hb:b ∈ ts
   ·have z':=(if_pos hb).symm.trans z
    cases z'
    exact HU b hb
   ·by_cases Fm:b = a
    ·have z':=((if_neg hb).trans (if_pos Fm)).symm.trans z
     cases z'
     subst Fm;exact ⟨ha,by rw [List.length_map];exact hl,vs,_,rv,ha⟩
    ·have z':=((if_neg hb).trans (if_neg Fm)).symm.trans z
     cases z'
theorem walk_ofT {l : W.OpenLaw} {n : Nat} {q : Program} {loose : List Str} {XP : (Str -> Option Value) -> Heap -> Prop} {YP : World -> Heap -> Prop} {d : DefRec} {K : Params -> W.Frag} {CX : World -> E9} {sp : World -> Sp} {ts : List Addr}
    (hn:l.most = some n) (Jy:n <= sizeLine) (OB:d.params.defaults = []) (hr:Room k callerA)
    (hY:∀ (w:World) (h:Heap),YP w h->(K w.params).In h/\∀ p ∈ ts,h.get? p = some (tabObj #[]))
    (F:∀ (w:World) (mg:Str->Option Value) (fa:Addr) (h:Heap),(K w.params).In h->h.Ns mainGlobals mg->mg d.name = some (.ref fa) ->
     (∀ p ∈ ts,(K w.params).lookup p = none/\∃ c,codeHdIn (K w.params) c p = true) /\
     ∃ fd:FuncData,(∀ (s:Shared) (u:Value),BindsTo s fd ⟨[u],[]⟩ [(x,u)]) /\
      ∀ base:Heap,(K w.params).In base->base.Ns mainGlobals mg->(∀ p ∈ ts,base.BuiltinsAt mg p)->FnOk l.prog w (K w.params) mg base (CX w) k fa fd [x] (sp w))
    (we:∀ (w:World) (H:Hp) (a:Addr) (ns:List Int),ns.length <= n->yL ts H->SqL (K w.params) H a (ns.map V.int)->sp w [.ref a] H (fun v _=>v = .bl true) fun _ _ _=>False)
    (RT:∀ (w:World) (H:Hp) (s:Shared) (e:Value) (s':Shared),CX w [] H s (fun _ _ _=>False) e s'->False) :
    W.WalkO q loose XP YP l.row.toRowW d [] (fun f vs=>PySem.call f vs):=by
 refine Att.attach_call hn OB fun w s₀ s₁ mg mb fa o pm cd doc a vs ns G Y ho hd jF Ol LZ hints hlen hg=>?_
 obtain ⟨KX,HU⟩:=hY w _ Y;obtain ⟨hp,fd,hb,hF⟩:=F w mg fa _ KX G.T.g Ol;refine AQ KX G.T.g G.T.b G.T.builtins G.T.nolimit hg LZ hints (Nat.le_trans hlen Jy) hr HU (fun p h=>(hp p h).1) (fun p h=>?_) (fun p h=>?_) hF hb (fun H hO hS=>we w H a ns hlen hO hS) fun H e s'=>RT w H s₁ e s'
 ·obtain ⟨c,hc⟩:=(hp p h).2;obtain ⟨o,vs,_,_,_,_,_,_,_,e1,e2,e3,e4,_⟩:=codeHd_of_K KX hc;exact ⟨c,o,vs,e1,e2,e3,e4⟩
 ·obtain ⟨bm,ob,e1,e2,e3,e4,e5,e6⟩:=G.T.bmain;refine ⟨bm,ob,e1,e2,fun z=>?_,fun z=>?_,e3,e4,e5,e6⟩
  ·obtain ⟨o,es,ep,g1,g2,_⟩:=G.T.g;rw [z,g1] at e3
   cases e3
   rw [e6] at g2
   cases g2
  ·rw [z,HU p h] at e3
   cases e3
   cases e4
end L2
namespace L2
open PySem PySem.Spec PyProof.Rows
section
variable {X:Cx} {K:W.Frag} {σ:St} {H:Hp} {Q:VK} {e e':Expr} {te YR:TE} {pos:Pos}
theorem Inv.turnedL {pins:List (Addr × Obj)} {s:Shared} {h':Heap} {ch:List Addr} {t':Nat} (I:Inv X pins σ H s) (k:∀ b o,b ∉ ch->s.heap.get? b = some o->h'.get? b = some o) (hf:∀ b ∈ ch,FpOk X pins H b):Inv X pins σ H { s with heap:=h',toks:=t' }:=by
 have DR:∀ b u,H b = some u->b ∉ ch:=fun b u e z=>by rw [(hf b z).1] at e;cases e
 refine I.step (g':=s.gens) (d':=s.drawn) (ch:=ch) (fun b hb=>?_) (fun b o _ _ hc e _=>k b o hc e) (fun b o _ _ hc e _=>⟨o.slots,k b o hc e⟩) (fun b o _ e q=>q)
  (fun b o hc e=>⟨o,k b o hc e⟩) (fun b xs e=>e) (fun b o u e=>e) (fun b ps e=>⟨#[],by rw [e];simp⟩) (fun m hm=>?_) (fun b u e=>?_) I.bare
 ·obtain ⟨_,f1,_,f3,f4,f5⟩:=hf b hb;exact ⟨f3,f1,f4,f5⟩
 ·obtain ⟨o,es,ep,ho,r⟩:=hm;exact ⟨o,es,ep,k _ o (fun z=>(hf _ z).2.1 rfl) ho,r⟩
 ·refine (I.hok b u e).stay (fun c v hc q=>k c v ?_ q) (fun c q=>q) fun c xs q=>q
  rcases hc with z | z
  ·rw [z];exact DR b u e
  ·exact DR c _ z
def Pd (K:W.Frag) (a b:Addr):It :=
 ⟨fun i H=>∃ xs ys x y,SqL K H a xs/\SqL K H b ys/\xs[i]? = some x/\ys[i]? = some y,fun i H x H'=>∃ p u v,x = .ref p/\H p = none/\(∀ xs,SqL K H a xs->xs[i]? = some u)/\(∀ ys,SqL K H b ys->ys[i]? = some v)/\H' = upd H p (.tup [u,v]),fun i H=>∃ xs ys,SqL K H a xs/\SqL K H b ys/\(xs.length <= i \/ ys.length <= i)⟩
theorem BK {P : Program} {w : World} {K : W.Frag} {elts : List Expr} {kt : Nat} {tp : Pos} (a b z TI TO i1 i2 : Addr) (ap : ZipApart z TI TO i1 i2 a b) : Turn P w K (.Tuple elts kt tp) (Pd K a b) [z, TI, TO, i1, i2] z
    (fun i h=>IsZip h z TI TO Value.none/\IsPair h TI (.ref i1) (.ref i2)/\(∃ u v,IsPair h TO u v)/\h.IsListIter i1 a i/\h.IsListIter i2 b i) where
 mem:=by simp
 obj:=fun i h st c hc=>by
  obtain ⟨s1,s2,⟨u,v,s3⟩,⟨o4,e4,_,d4⟩,⟨o5,e5,_,d5⟩⟩:=st;simp only [List.mem_cons,List.not_mem_nil,or_false] at hc
  rcases hc with rfl | rfl | rfl | rfl | rfl
  ·exact ⟨_,s1,fun v z=>by cases z⟩
  ·exact ⟨_,s2,fun v z=>by cases z⟩
  ·exact ⟨_,s3,fun v z=>by cases z⟩
  ·exact ⟨o4,e4,fun v z=>by rw [d4] at z;cases z⟩
  ·exact ⟨o5,e5,fun v z=>by rw [d5] at z;cases z⟩
 keep:=fun i h h' st k=>by
  obtain ⟨s1,s2,⟨u,v,s3⟩,s4,s5⟩:=st;exact ⟨k z (by simp) _ s1,k TI (by simp) _ s2,⟨u,v,k TO (by simp) _ s3⟩,s4.at fun o e=>k i1 (by simp) o e,s5.at fun o e=>k i2 (by simp) o e⟩
 item:=by
  intro X hP hw hK hc i pins s σ H E I hf st hg;subst hP hw hK;obtain ⟨s1,s2,⟨u0,v0,s3⟩,s4,s5⟩:=st;obtain ⟨xs,ys,x,y,hq,nI,hx,hy⟩:=hg;obtain ⟨its,rv,p,hz⟩:=I.list hq;obtain ⟨its',Pp,p',PH⟩:=I.list nI;obtain ⟨u,hu,ru⟩:=rv.get hx;obtain ⟨u',hu',Qq⟩:=Pp.get hy;have hn:H s.heap.objs.size = none:=I.hok.fresh (Nat.le_refl _);have lt:∀ c ∈ [z,TI,TO,i1,i2],s.heap.objs.size ≠ c:=fun c hc=>by
   simp only [List.mem_cons,List.not_mem_nil,or_false] at hc;obtain ⟨o4,e4,_⟩:=s4;obtain ⟨o5,e5,_⟩:=s5
   rcases hc with rfl | rfl | rfl | rfl | rfl
   ·exact Ne.symm (Nat.ne_of_lt (Heap.lt_size s1))
   ·exact Ne.symm (Nat.ne_of_lt (Heap.lt_size s2))
   ·exact Ne.symm (Nat.ne_of_lt (Heap.lt_size s3))
   ·exact Ne.symm (Nat.ne_of_lt (Heap.lt_size e4))
   ·exact Ne.symm (Nat.ne_of_lt (Heap.lt_size e5))
  refine wpAny_pyNext_zip_item ap s1 s2 s3 s4 s5 p.isList p'.isList (x:=u) (y:=u') (by simpa using hu) (by simpa using hu') fun h' o1 o3 l1 l2 t1 z1 k1=>?_
  refine ⟨_,rfl,wpAny_letOwnedTupleGo_zip (s:={ s with heap:=h' }) o1 fun h2 e2 Vk=>?_⟩;have kk:∀ c o,c ≠ z->h'.get? c = some o->h2.get? c = some o:=fun c o n e=>(Vk.2 c n).trans e
  have Te:h2.IsListIter i1 a (i + 1):=l1.at fun o e=>kk i1 o ap.i1z e
  have VP:h2.IsListIter i2 b (i + 1):=l2.at fun o e=>kk i2 o ap.i2z e
  have t2:IsPair h2 s.heap.objs.size u u':=kk _ _ (lt z (by simp)) t1;have CT:IsPair h2 TI (.ref i1) (.ref i2):=kk _ _ ap.TIz (k1 TI _ ap.TIz ap.TITO ap.TIi1 ap.TIi2 s2);have I2:Inv X pins σ (upd H s.heap.objs.size (.tup [x,y])) { s with heap:=h2 }:=by
   refine I.turnedT (t':=s.toks) (ch:=[z,TI,TO,i1,i2]) (fun c o hc e=>?_) hf (Nat.le_refl _) (fun hc=>lt _ hc rfl) ⟨by simp only [List.length_cons,List.length_nil];decide,[u,u'],.cons ru (.cons Qq .nil),_,t2,rfl,_,rfl⟩;simp only [List.mem_cons,List.not_mem_nil,or_false,not_or] at hc;exact kk c o hc.1 (k1 c o hc.1 hc.2.2.1 hc.2.2.2.1 hc.2.2.2.2 e)
  refine ⟨.ref s.heap.objs.size,_,I2,rfl,⟨_,x,y,rfl,hn,fun zs hy=>by rw [I.list_inj hy hq];exact hx,fun zs h=>by rw [I.list_inj h nI];exact hy,rfl⟩,⟨e2,CT,⟨u,u',kk _ _ ap.TOz o3⟩,Te,VP⟩,fun c hc=>?_⟩
  rw [aj (fun q=>lt c hc q.symm)];exact (hf c hc).1
 done:=by
  intro X hP hw hK hc i pins s σ H E I hf st hg;subst hP hw hK;obtain ⟨s1,s2,⟨u0,v0,s3⟩,s4,s5⟩:=st;obtain ⟨xs,ys,hq,nI,hx⟩:=hg;obtain ⟨its,rv,p,hz⟩:=I.list hq;obtain ⟨its',Pp,p',PH⟩:=I.list nI;have hl:=rv.length;have WH:=Pp.length;refine wpAny_pyNext_zip_end (I.ok.hd hc) ap s1 s2 s3 s4 s5 p.isList p'.isList (hx.elim (fun hx=>.inl (by simp;omega)) fun hx=>.inr (by simp;omega)) fun h' eb=>⟨rfl,I.turnedL (t':=s.toks) (ch:=[z,TI,TO,i1,i2]) (fun c o hc e=>?_) hf⟩
  simp only [List.mem_cons,List.not_mem_nil,or_false,not_or] at hc;exact eb c o hc.1 hc.2.2.1 hc.2.2.2.1 hc.2.2.2.2 e
 self:=fun _ _ _ _ _ st h=>wpAny_pyIter_zip st.1 h
def N6 (K:W.Frag) (t:TA):TI:=fun σ H R=>t σ H fun vs H1=>∃ a b,vs = [V.ref a,V.ref b]/\(∃ xs,SqL K H1 a xs)/\(∃ xs,SqL K H1 b xs)/\R (Pd K a b) H1
theorem Mw {elts:List Expr} {kt:Nat} {tp p:Pos} {t:TA} (hm:X.mg "zip" = none) (h:BA X [e,e'] t) (hg:Gl X "zip":=by rfl) (h1:isStar e = false:=by rfl) (h2:isStar e' = false:=by rfl):BI X (.Tuple elts kt tp) (.Call (.Name "zip" p) [e,e'] [] pos) (N6 X.K t):=⟨by
 intro pins s σ H R I q;refine wpAny_Call_Name_kw (lH (u:=.type "zip") I hg hm boot_zip ?_ (by decide) (by decide));refine PyProof.Rows.callWith_type1 ?_ (aG h1) (by rw [aG h2];rfl);refine bw (h.h pos pins s σ H (fun vs H1=>∃ a b,vs = [V.ref a,V.ref b]/\(∃ xs,SqL X.K H1 a xs)/\(∃ xs,SqL X.K H1 b xs)/\R (Pd X.K a b) H1) I q) fun us s1 ⟨vs,H1,I1,rv,a,b,ev,⟨xs,hq⟩,⟨ys,nI⟩,q⟩=>?_
 subst ev
 cases rv with
 | @cons _ u _ _ ru rr =>
  obtain ⟨u',rfl,Qq⟩:=vals1 rr
  cases (show u = Value.ref a from ru)
  cases (show u' = Value.ref b from Qq)
  obtain ⟨its,rv,pl,hz⟩:=I1.list hq;obtain ⟨its',Pp,SO,PH⟩:=I1.list nI;refine call_zip_2 pl.isList SO.isList fun h' e1 e2 e3 l1 l2 z1 k1=>?_
  refine wpAny_pyIter_zip e1 ?_;have la:a < s1.heap.objs.size:=by obtain ⟨o,e,_⟩:=pl.isList;exact Heap.lt_size e
  have lb:b < s1.heap.objs.size:=by obtain ⟨o,e,_⟩:=SO.isList;exact Heap.lt_size e
  refine ⟨s1.heap.objs.size + 4,[s1.heap.objs.size + 4,s1.heap.objs.size + 2,s1.heap.objs.size + 3,s1.heap.objs.size,s1.heap.objs.size + 1],_,_,H1,rfl,I1.kept (t':=s1.toks) k1,BK a b _ _ _ _ _ (zipApart_new la lb),⟨e1,e2,⟨_,_,e3⟩,l1,l2⟩,fun c hc=>?_,q⟩
  have rS:s1.heap.objs.size <= c:=by
   simp only [List.mem_cons,List.not_mem_nil,or_false] at hc
   rcases hc with rfl | rfl | rfl | rfl | rfl <;> first | exact Nat.le_refl _ | exact Nat.le_add_right _ _
  exact I1.fpOk rS (I1.hok.fresh rS)⟩
instance YD {t:TA} {F:It->Hp->Prop}:aV (N6 K t σ H F) (t σ H fun vs H1=>∃ a b,vs = [V.ref a,V.ref b]/\(∃ xs,SqL K H1 a xs)/\(∃ xs,SqL K H1 b xs)/\F (Pd K a b) H1):=⟨id⟩
theorem Ky {a b:Addr} {xs ys:List V} {F:Addr->Addr->Prop} (e:SqL K H a xs) (e':SqL K H b ys) (h:F a b):∃ a' b',[V.ref a,V.ref b] = [V.ref a',V.ref b']/\(∃ xs,SqL K H a' xs)/\(∃ xs,SqL K H b' xs)/\F a' b':=⟨a,b,rfl,⟨xs,e⟩,⟨ys,e'⟩,h⟩
theorem RY {a b : Addr} {xs ys : List V} {g : TG} {tb : TS} {D : Ends} (hlen : xs.length = ys.length) (Pv : Nat -> St -> Hp -> Prop) (h0 : Pv 0 σ H) (hl : ∀ i σ H, Pv i σ H -> SqL K H a xs /\ SqL K H b ys)
    (hs:∀ i x y p σ H H1,i < xs.length->xs[i]? = some x->ys[i]? = some y->Pv i σ H->H p = none->Same H H1->H1 p = some (.tup [x,y])->g (.ref p) σ H1 fun σ2 H2=>tb { nx:=Pv (i + 1),rt:=D.rt,ct:=Pv (i + 1),bk:=D.nx } σ2 H2) (hd:∀ σ H,Pv xs.length σ H->D.nx σ H):xq (Pd K a b) g tb D σ H:=by
 refine ⟨fun i m σ H=>m = xs.length - i/\i <= xs.length/\Pv i σ H,⟨xs.length,by simp,Nat.zero_le _,h0⟩,?_⟩
 rintro i m σ H ⟨rfl,hi,p⟩;obtain ⟨q,q'⟩:=hl i σ H p
 by_cases eR:i < xs.length
 ·refine .inr ⟨⟨xs,ys,_,_,q,q',List.getElem?_eq_getElem eR,List.getElem?_eq_getElem (by omega)⟩,Pv (i + 1),fun σ' H' p'=>⟨xs.length - (i + 1),by omega,rfl,eR,p'⟩,fun x H' y=>?_⟩
  obtain ⟨pp,u,v,rfl,hp,y,y',rfl⟩:=y;exact hs i u v pp σ H _ eR (y xs q) (y' ys q') p hp (aE hp) ak
 ·have e:i = xs.length:=by omega
  subst e;exact .inl ⟨⟨xs,ys,q,q',.inl (Nat.le_refl _)⟩,hd σ H p⟩
end
local macro_rules | `(term| type_of% $n:ident) => return Lean.mkIdent (Lean.mkPrivateNameCore `PySem.Builtin.Dict_items.Iterators (`PySem.Builtin ++ n.getId))
local macro_rules | `(tactic| delta $n:ident) => if Lean.isPrivateName n.getId then Lean.Macro.throwUnsupported else `(tactic| delta $(Lean.mkIdent (Lean.mkPrivateNameCore `PySem.Builtin.Dict_items.Iterators (`PySem.Builtin ++ n.getId))):ident)
section
variable {prog:Program} {w:World} {A:Around} {E:Value->Shared->Prop} {s:Shared} {it d:Addr} {i ep:Nat} {o:Obj} {es:Array DictEntry}
theorem oA {Q:Nat->Shared->Prop} (st:s.TypeIs (.ref it) "dict_keyiterator") (q:Q 0 s):wpAny (model prog w) A ((type_of% base) (.ref it)) Q E s:=by
 delta base
 exact wpAny_bind (wpAny_typeNameOfWhole_keyiter st (wpAny_pure q))
theorem rM {id:String} {Q:Option (Array DictEntry × Int)->Shared->Prop} (st:s.heap.IsKeyIter it d i es.size ep) (hd:s.heap.get? d = some o) (HZ:o.data = .dict es ep) (q:Q (some (es,(i:Int))) s):wpAny (model prog w) A ((type_of% place) id (.ref it) true) Q E s:=by
 have ty:=st.typeIs (s:=s);obtain ⟨oi,e1,e2,e3⟩:=st
 delta place
 refine wpAny_bind (oA ty ?_);refine wpAny_bind (wpAny_fieldsOf e1 e3 ?_);show wpAny _ _ (if (Value.ref d == Value.none) = true then _ else _) _ _ _
 rw [if_neg (by simp)];refine wpAny_bind (wpAny_pure ?_);refine wpAny_bind (wpAny_dictEntries hd HZ ?_);dsimp only;rw [if_neg (by simp)];refine wpAny_bind (wpAny_pure ?_);refine wpAny_bind (wpAny_dictEpoch hd HZ ?_);rw [if_neg (by simp)];exact wpAny_pure q
theorem D5 {e : DictEntry} {Q : Option Value -> Shared -> Prop} (st : s.heap.IsKeyIter it d i es.size ep) (hd : s.heap.get? d = some o) (HZ : o.data = .dict es ep) (he : es[i]? = some e)
    (q:∀ h',h'.IsKeyIter it d (i + 1) es.size ep->Heap.SameBut it s.heap h'->Q (some e.key) { s with heap:=h' }):wpAny (model prog w) A (pyNext (.ref it)) Q E s:=by
 have ty:=st.typeIs (s:=s);unfold pyNext;refine wpAny_bind (wpAny_attempt (wpAny_callSpecial?_slot ty F.slot_dict_keyiterator_next (wpAny_call_entry F.slot_dict_keyiterator_next ty F.entry_dict_keyiterator_next ?_ (F.args_dict_keyiterator_next_1 _))));show wpAny _ _ ((type_of% nextOfTheView) _ _) _ _ _
 delta nextOfTheView
 refine wpAny_bind (wpAny_pure ?_);refine wpAny_bind (rM st hd HZ ?_);dsimp only;rw [if_neg (show ¬ (i:Int) < 0 by omega),show ((i:Int).toNat) = i from Int.toNat_natCast i,he];dsimp only;refine wpAny_bind (oA ty ?_);refine wpAny_bind (wpAny_isOneOf_keyiter ty ?_);obtain ⟨oi,e1,e2,e3⟩:=st;refine wpAny_bind (wpAny_setField e1 e3 (by simp) ?_);generalize hh:s.heap.update it _ = h1;have g1:h1.IsKeyIter it d (i + 1) es.size ep:=by
  rw [<- hh];refine ⟨_,Heap.get?_update_self _ e1 (Obj.isFreed_of_fields (Obj.data_mapFields e3 _)),(Obj.cls_mapFields _ _).trans e2,(Obj.data_mapFields e3 _).trans ?_⟩
  rfl
 have sb:Heap.SameBut it s.heap h1:=by rw [<- hh];exact Heap.SameBut.update _ _ _
 have M':=g1.typeIs (s:={ s with heap:=h1 });refine wpAny_bind (wpAny_holding ?_)
 delta pick
 refine wpAny_bind (wpAny_isOneOf_keyiter M' ?_);rw [if_pos (by decide)];exact wpAny_pure (wpAny_pure ⟨_,rfl,wpAny_pure (q h1 g1 sb)⟩)
theorem HK {Q : Option Value -> Shared -> Prop} (hh : A.handled = none) (st : s.heap.IsKeyIter it d i es.size ep) (hd : s.heap.get? d = some o) (HZ : o.data = .dict es ep) (he : es[i]? = none)
    (q:∀ h',Heap.ExtBut it s.heap h'->Q none { s with heap:=h' }):wpAny (model prog w) A (pyNext (.ref it)) Q E s:=by
 have ty:=st.typeIs (s:=s);unfold pyNext;refine wpAny_bind (wpAny_attempt (wpAny_callSpecial?_slot ty F.slot_dict_keyiterator_next (wpAny_call_entry F.slot_dict_keyiterator_next ty F.entry_dict_keyiterator_next ?_ (F.args_dict_keyiterator_next_1 _))));show wpAny _ _ ((type_of% nextOfTheView) _ _) _ _ _
 delta nextOfTheView
 refine wpAny_bind (wpAny_pure ?_);refine wpAny_bind (rM st hd HZ ?_);dsimp only;rw [if_neg (show ¬ (i:Int) < 0 by omega),show ((i:Int).toNat) = i from Int.toNat_natCast i,he];dsimp only;refine wpAny_bind (oA ty ?_);obtain ⟨oi,e1,e2,e3⟩:=st;refine wpAny_bind (wpAny_setField e1 e3 (by simp) ?_);generalize PU:s.heap.update it _ = h1;have sb:Heap.SameBut it s.heap h1:=by rw [<- PU];exact Heap.SameBut.update _ _ _
 refine wpAny_bind (wpAny_bind (wpAny_newTuple ?_ (Nat.zero_le _)));refine wpAny_bind (wpAny_pure ?_);refine wpAny_newObj_type ?_ (sizeOk_excFields _ _ _ _ _ _ _ _);unfold raiseNew;refine wpAny_bind (wpAny_handled ?_);have WL:A.in1.handled = none:=hh;rw [WL];refine wpAny_throw ?_;refine wpAny_bind (wpAny_isInstance (T:="StopIteration") ⟨_,Heap.get?_push_size _ rfl,rfl⟩ isSubtype_stop ?_);rw [if_pos rfl];exact wpAny_pure (q _ fun b o n e=>Heap.get?_push_of_some _ (Heap.get?_push_of_some _ (sb.extBut b o n e)))
theorem D4 {Q : Value -> Shared -> Prop} (hm : (d == sysModules) = false) (hd : s.heap.get? d = some o) (hx : o.ExactDict) (HZ : o.data = .dict es ep) (hz : es.size <= sizeLine)
    (q:∀ h',h'.IsKeyIter s.heap.objs.size d 0 es.size ep->(∀ b u,s.heap.get? b = some u->h'.get? b = some u)->Q (.ref s.heap.objs.size) { s with heap:=h' }):wpAny (model prog w) A (pyIter (.ref d)) Q E s:=by
 have ty:s.TypeIs (.ref d) "dict":=⟨o,hd,hx.1⟩;refine wpAny_pyIter_slot ty F.slot_dict_iter (wpAny_call_entry F.slot_dict_iter ty F.entry_dict_iter ?_ (F.args_dict_iter_1 _));show wpAny _ _ (Builtin.Dict.dictSlotNone "__iter__" { pos:=[.ref d] } >>= _) _ _ _;refine wpAny_bind (wpAny_bind (wpAny_notOrdered_dict ty (wpAny_bind (wpAny_pure (wpAny_pure ?_)))));refine wpAny_bind (wpAny_pure ?_);refine wpAny_bind ?_;unfold Builtin.Dict.showsAll;rw [if_neg (by rw [hm];decide)];refine wpAny_pure ?_;refine wpAny_bind (wpAny_dictEntries hd HZ ?_);refine wpAny_bind (wpAny_dictEpoch hd HZ ?_);refine wpAny_bind (wpAny_newObj_type ?_ ?_)
 ·refine wpAny_pure ⟨_,rfl,"dict_keyiterator",_,⟨_,Heap.get?_push_size _ rfl,rfl⟩,F.slot_dict_keyiterator_next.lookup,q _ ⟨_,Heap.get?_push_size _ rfl,rfl,rfl⟩ fun b u e=>Heap.get?_push_of_some _ e⟩
 ·show sizeOk _
  first | trivial | exact Nat.le_refl _ | (unfold sizeOk;simp [sizeLine_eq]) | (simp [sizeOk,sizeLine_eq])
end
end L2
namespace L2
open PySem PySem.Spec PyProof.Rows
variable {σ:St} {H:Hp} {te:TE} {pos:Pos} {pins:List (Addr × Obj)} {s:Shared} {C:Addr} {fp:List Addr}
section
variable {X:Cx} {K:W.Frag} {Q:VK} {e:Expr}
theorem Inv.freeze {a:Addr} {kvs:List (List Key × V)} (I:Inv X pins σ H s) (e:H a = some (.dT kvs)):∃ o,s.heap.get? a = some o/\Inv X pins σ (upd H a (.frz o (.dT kvs))) s:=by
 have ho:=I.hok a _ e;obtain ⟨_,_,xs,r,o,es,ep,h1,h2⟩:=id ho;refine ⟨o,h1,?_⟩;have nt:∀ b u,H b = some u->(∀ k,u ≠ .dT k)->b ≠ a:=fun b u q n z=>by rw [z,e] at q;cases q;exact n _ rfl
 have un:Un X.fs [] H (upd H a (.frz o (.dT kvs))) s.heap s.heap:=by
  refine ⟨fun b o q _ _ _=>q,fun b o q _ _ _=>⟨o.slots,q⟩,fun b o q n _=>?_,fun b o q _=>⟨o,q⟩,fun b xs q=>?_,fun b o u q=>?_,fun b ps q=>⟨#[],?_⟩⟩
  ·rw [aj (fun z=>by rw [z,e] at n;cases n)];exact n
  ·rw [aj (nt b _ q (fun _ z=>by cases z))];exact q
  ·rw [aj (nt b _ q (fun _ z=>by cases z))];exact q
  ·rw [aj (nt b _ q (fun _ z=>by cases z)),q];simp
 have ht:∀ b ys,H b = some (.tup ys)->upd H a (.frz o (.dT kvs)) b = some (.tup ys):=fun b ys q=>by rw [aj (nt b _ q (fun _ z=>by cases z))];exact q
 have hw:∀ b x,H b = some (.own x)->upd H a (.frz o (.dT kvs)) b = some (.own x):=fun b x q=>by rw [aj (nt b _ q (fun _ z=>by cases z))];exact q
 refine I.un (t':=s.toks) un fun b u q=>?_
 by_cases z:b = a
 ·subst z;rw [ak] at q
  cases q
  exact ⟨h1,ho.stay (fun c v _ q=>q) (fun c r=>hw c _ r) fun c xs r=>ht c _ r⟩
 ·rw [aj z] at q;exact (I.hok b u q).stay (fun c v _ q=>q) (fun c r=>hw c _ r) fun c xs r=>ht c _ r
def Qa (a:Addr) (o:Obj) (kvs:List (List Key × V)):It :=
 ⟨fun i H=>H a = some (.frz o (.dT kvs))/\i < kvs.length,fun i H x H'=>H' = H/\∃ b k v,kvs[i]? = some (k,v)/\x = .ref b/\H b = some (.tup (k.map kV)),fun i H=>H a = some (.frz o (.dT kvs))/\kvs.length <= i⟩
theorem zW {P:Program} {w:World} {K:W.Frag} {tg:Expr} (a it:Addr) (o:Obj) (kvs:List (List Key × V)) (es:Array DictEntry) (ep:Nat) (cC:o.data = .dict es ep):Turn P w K tg (Qa a o kvs) [it] it (fun i h=>h.IsKeyIter it a i es.size ep) where
 mem:=by simp
 obj:=fun i h st b hb=>by
  have e:b = it:=by simpa using hb
  subst e;obtain ⟨o,e,c,d⟩:=st;exact ⟨o,e,fun v z=>by rw [d] at z;cases z⟩
 keep:=fun i h h' st k=>st.at fun o e=>k it (by simp) o e
 item:=by
  intro X hP hw hK hc i pins s σ H E I hf st hg;subst hP hw hK;obtain ⟨ha,hi⟩:=hg;obtain ⟨ho,_,_,xs,r,o',dA,Mi,h1,h2,h3,h4,h5⟩:=I.hok a _ ha;rw [ho] at h1
  cases h1
  rw [cC] at h3
  cases h3
  obtain ⟨f0,f1,f2,f3,f4,f5⟩:=hf it (by simp);have hlen:xs.length = kvs.length:=by
   have:∀ {l:List (List Key × V)} {m:List (List Key × Addr × Value)},KT H l m->m.length = l.length:=by
    intro l m q
    induction q with
    | nil=>rfl
    | cons _ _ ih=>rw [List.length_cons,List.length_cons,ih]
   exact this r
  have hx:i < xs.length:=by omega
  have Mc:es[i]? = some (entryOfKey (tupleKind (ba X.prog X.w)) xs[i]):=by
   rw [<- Array.getElem?_toList,h4,List.getElem?_map,List.getElem?_eq_getElem hx];rfl
  have at_:∀ {l:List (List Key × V)} {m:List (List Key × Addr × Value)} {j:Nat} {q:List Key × Addr × Value},KT H l m->m[j]? = some q->∃ p,l[j]? = some p/\p.1 = q.1/\H q.2.1 = some (.tup (p.1.map kV)):=by
   intro l m j q t
   induction t generalizing j with
   | nil=>intro z;simp at z
   | @cons p q' ps qs hq t ih =>
    intro z
    cases j with
    | zero =>
     simp at z;subst z;exact ⟨p,rfl,hq.1,hq.2.1⟩
    | succ j=>exact ih (by simpa using z)
  obtain ⟨p,hp,hk,hb⟩:=at_ r (List.getElem?_eq_getElem hx);refine D5 st ho cC Mc fun h' aO sb=>?_
  have I1:Inv X pins σ H { s with heap:=h' }:=I.turned (t':=s.toks) (fun b o hb e=>(sb.2 b hb).trans e) f0 f1 f3 f4 f5
  exact ⟨_,rfl,letGo_keyiter aO ⟨.ref (xs[i]).2.1,H,I1,rfl,⟨rfl,_,p.1,p.2,hp,rfl,hb⟩,aO,fun b hb=>(hf b hb).1⟩⟩
 done:=by
  intro X hP hw hK hc i pins s σ H E I hf st hg;subst hP hw hK;obtain ⟨ha,hi⟩:=hg;obtain ⟨ho,_,_,xs,r,o',dA,Mi,h1,h2,h3,h4,h5⟩:=I.hok a _ ha;rw [ho] at h1
  cases h1
  rw [cC] at h3
  cases h3
  obtain ⟨f0,f1,f2,f3,f4,f5⟩:=hf it (by simp);have hlen:xs.length = kvs.length:=by
   have:∀ {l:List (List Key × V)} {m:List (List Key × Addr × Value)},KT H l m->m.length = l.length:=by
    intro l m q
    induction q with
    | nil=>rfl
    | cons _ _ ih=>rw [List.length_cons,List.length_cons,ih]
   exact this r
  have Mc:es[i]? = none:=by
   rw [<- Array.getElem?_toList,h4,List.getElem?_map,List.getElem?_eq_none (by omega)];rfl
  exact HK (I.ok.hd hc) st ho cC Mc fun h' eb=>⟨rfl,I.turned (t':=s.toks) (fun b o hb e=>eb b o hb e) f0 f1 f3 f4 f5⟩
 self:=fun _ _ _ _ _ st h=>wpAny_pyIter_keyiter st h
def Jp (te:TE):TI:=fun σ H R=>te σ H fun x H1=>∃ a kvs,x = .ref a/\H1 a = some (.dT kvs)/\∀ o,R (Qa a o kvs) (upd H1 a (.frz o (.dT kvs)))
theorem Iz {tg:Expr} (h:BE X e te):BI X tg e (Jp te):=⟨by
 intro pins s σ H R I q;refine bw (h.h pins s σ H _ I q) fun u s1 ⟨x,H1,I1,rx,a,kvs,ex,ha,q⟩=>?_
 subst ex
 cases (show u = Value.ref a from rx)
 obtain ⟨o,ho,I2⟩:=I1.freeze ha;obtain ⟨_,hm,xs,r,o',es,ep,h1,h2,h3,h4,h5⟩:=I1.hok a _ ha;rw [ho] at h1
 cases h1
 have hz:es.size <= sizeLine:=by
  have hl:=(JE I1.hok ha).1;have:∀ {l:List (List Key × V)} {m:List (List Key × Addr × Value)},KT H1 l m->m.length = l.length:=by
   intro l m q
   induction q with
   | nil=>rfl
   | cons _ _ ih=>rw [List.length_cons,List.length_cons,ih]
  have:=this r;rw [<- Array.length_toList,h4,List.length_map,this];exact hl
 refine D4 hm ho h2 h3 hz fun h' st k=>?_
 have hn:upd H1 a (.frz o (.dT kvs)) s1.heap.objs.size = none:=I2.hok.fresh (Nat.le_refl _);refine ⟨s1.heap.objs.size,[s1.heap.objs.size],_,_,_,rfl,I2.kept (t':=s1.toks) k,zW a _ o kvs es ep h3,st,fun b hb=>?_,q o⟩
 rw [List.mem_singleton.mp hb];exact I2.fpOk (Nat.le_refl _) hn⟩
instance YC {F:It->Hp->Prop}:aV (Jp te σ H F) (te σ H fun x H1=>∃ a kvs,x = .ref a/\H1 a = some (.dT kvs)/\∀ o,F (Qa a o kvs) (upd H1 a (.frz o (.dT kvs)))):=⟨id⟩
end
structure LcScope2 (scope:Scope) (x x2:Str) (fv:List Str) (osc:Scope):Prop where
 kind:scope.kind = .function
 nocell:∀ y ∈ scope.names,y.2 ≠ .cell
 names:∀ y ∈ scope.names,y.2 = .local->scope.names.lookup y.1 = some .local
 tgt:scope.names.lookup x = some .local
 tgt2:scope.names.lookup x2 = some .local
 free:∀ y ∈ scope.names,y.2 = .free->osc.names.lookup y.1 = some .cell \/ osc.names.lookup y.1 = some .free
 fvs:∀ y ∈ fv,scope.names.lookup y = some .free
 nd:(x :: x2 :: fv).Nodup
def MC (K:PySem.W.Frag) (J:It) (ix:List Nat) (σ:St) (tt:TT) (te:TE) (Q:VK) (H1:Hp):Prop:=∃ W:Nat->Nat->List V->Hp->Prop,(∃ m,W 0 m [] H1)/\∀ i m ys H2,W i m ys H2 ->
 (J.stop i H2/\∀ D,H2 D = none->Q (.ref D) (upd H2 D (.lst ys))) \/
 (J.go i H2/\ys.length < sizeLine/\∀ x H3,J.yld i H2 x H3->∃ ta v1 v2,x = .ref ta/\SqT K H3 ta [v1,v2]/\tt (some v1 :: some v2 :: pick ix σ) H3 fun b H4=>if b = true then te (some v1 :: some v2 :: pick ix σ) H4 fun y H5=>∃ m',m' < m/\W (i + 1) m' (ys ++ [y]) H5 else ∃ m',m' < m/\W (i + 1) m' ys H4)
def JR (K:W.Frag) (ix:List Nat) (wi:TI) (tt:TT) (te:TE):TE:=fun σ H Q=>wi σ H fun J H1=>MC K J ix σ tt te Q H1
section
variable {X:Cx} {scope:Scope} {x x2:Str} {fv:List Str} {ix:List Nat}
theorem LcScope2.cells (S:LcScope2 scope x x2 fv X.env.scope) (ok:X.Ok):∀ y ∈ scope.names,y.2 = .free->∃ c,X.env.cells.lookup y.1 = some c:=fun y hy hf=>by
 rcases S.free y hy hf with e | e
 ·exact ok.has y.1 (.inl e)
 ·exact ok.has y.1 (.inr e)
theorem EC (S : LcScope2 scope x x2 fv X.env.scope) (I : Inv X pins σ H s) (hC : s.heap.objs.size <= C) (f2 : ∀ b ∈ fp, FpOk X pins H b) (fl : ∀ b ∈ fp, b < s.heap.objs.size) :
    (X.comp scope (x :: x2 :: fv) C s H fp).Ok:=by
 have jZ:=S.cells I.ok;refine ⟨I.ok.mod,S.kind,I.ok.glob,I.ok.blt,hC,fun y z c h1 h2=>I.ok.inj y z c (aQ jZ h1) (aQ jZ h2),fun y hy=>?_,fun y c Ma _=>absurd (show false = true from Ma) (by decide),I.ok.hd,I.ok.frames,.inl rfl,
  fun b hb=>⟨Nat.ne_of_lt (Nat.lt_of_lt_of_le (fl b hb) hC),fun y c h1=>(f2 b hb).2.2.2.2.1 y c (aQ jZ h1)⟩,I.bs,Nat.le_trans I.ok.bsz I.sz,fun b o e hb=>?_,fun b hb hs=>?_,I.stack,I.stkFree⟩
 ·exact ju (hU S.nocell hy)
 ·rcases (f2 b hb).2.2.2.1 with z | z
  ·exact I.ok.noex b o e z
  ·exact absurd (Nat.lt_of_lt_of_le (Heap.lt_size (I.ok.bs b o e).1) z) (Nat.lt_irrefl _)
 ·rcases List.mem_cons.mp (I.stkSub b hs) with z | z
  ·exact (f2 b hb).2.1 z
  ·exact (f2 b hb).2.2.1 z
theorem wL {D : Addr} {h₁ : Heap} {m : Str -> Option Value} {tk n : Nat} (S : LcScope2 scope x x2 fv X.env.scope) (wm : ix.map (fun i => X.N[i]?) = fv.map some) (I : Inv X pins σ H s)
    (hD:s.heap.objs.size <= D) (Bf:D ≠ C) (hC:s.heap.objs.size <= C) (f2:∀ b ∈ fp,FpOk X pins H b) (fl:∀ b ∈ fp,b < s.heap.objs.size)
    (MT:h₁.Ns C m) (old:∀ b o,s.heap.get? b = some o->h₁.get? b = some o) (kL:h₁.get? D = some (lobj [] n)) :
    Inv (X.comp scope (x :: x2 :: fv) C s H fp) [(D,lobj [] n)] (none :: none :: pick ix σ) H { s with heap:=h₁,toks:=tk }:=by
 have jZ:=S.cells I.ok;refine ⟨EC S I hC f2 fl,rfl,I.bare,Un.kept old,⟨m,MT,fun i y v h1 h2 h3=>?_⟩,fun y c h1=>?_,I.hok.fresh hC,fun y c h1=>I.freeC y c (aQ jZ h1),fun p hp=>?_,I.hok.kept old,?_⟩
 ·match i with
  | 0=>simp at h2
  | 1=>simp at h2
  | i + 2 =>
   have js:fv[i]? = some y:=by simpa [Cx.comp] using h1
   have h2':(pick ix σ)[i]? = some (some v):=by simpa using h2
   unfold pick at h2';rw [List.getElem?_map] at h2'
   cases e:ix[i]? with
   | none=>rw [e] at h2';cases h2'
   | some j =>
    rw [e] at h2';have e2:(σ[j]?).join = some v:=by simpa using h2'
    have e3:σ[j]? = some (some v):=by
     cases q:σ[j]? with
     | none=>rw [q] at e2;cases e2
     | some o=>rw [q] at e2;rw [show o = some v from e2]
    have e4:X.N[j]? = some y:=by
     have:=congrArg (fun l=>l[i]?) wm
     simp only [List.getElem?_map,e,js,Option.map_some] at this;exact Option.some.inj this
    have LO:=S.fvs y (List.mem_of_getElem? js);have uf:=S.free (y,.free) (PySem.mem_of_lookup LO) rfl;obtain ⟨m0,PN,A4⟩:=I.loc;obtain ⟨u,r,lk⟩:=A4 j y v e4 e3 (uf.elim (fun z=>.inr (.inl z)) fun z=>.inr (.inr z))
    refine ⟨u,r,.inr ⟨?_,?_⟩⟩
    ·exact g9 (scope:=scope) (env:=X.env) LO
    ·rcases lk with ⟨k,_⟩ | ⟨_,c,hc,mw⟩
     ·rcases uf with z | z
      ·have k':X.env.scope.names.lookup y = some .local:=k;rw [show X.env.scope.names.lookup y = some .cell from z] at k';cases k'
      ·have k':X.env.scope.names.lookup y = some .local:=k;rw [show X.env.scope.names.lookup y = some .free from z] at k';cases k'
     ·obtain ⟨c',zw⟩:=ju (env:=X.env) LO;have e5:=aQ jZ zw;rw [hc] at e5
      cases e5
      obtain ⟨o,ho,hd⟩:=mw;exact ⟨c,zw,o,old c o ho,hd⟩
 ·obtain ⟨v,o,ho,hd⟩:=I.cell y c (aQ jZ h1);exact ⟨v,o,old c o ho,hd⟩
 ·have qc:p = (D,lobj [] n):=by simpa [Cx.comp] using hp
  subst qc;refine ⟨kL,I.hok.fresh hD,Bf,fun hs=>?_,fun v z=>?_⟩
  ·rcases List.mem_cons.mp (I.stkSub _ hs) with z | z
   ·exact absurd (show D = X.env.locals from z) (Nat.ne_of_gt (Nat.lt_of_lt_of_le I.lt hD))
   ·exact I.nofs hD z
  ·have z':Data.seq _ _ = Data.cell v:=z
   cases z'
 ·show (none :: none :: pick ix σ).length = (x :: x2 :: fv).length;have:=congrArg List.length wm;simp only [List.length_map] at this;simp [pick,this]
theorem Bo {σ' : St} {H' : Hp} {s1 : Shared} {D : Addr} {h' : Heap} {its : List Value} {ys : List V} {n : Nat} (I : Inv X pins σ H s)
    (hD:s.heap.objs.size <= D) (hC:s.heap.objs.size <= C) (f2:∀ b ∈ fp,FpOk X pins H b)
    (I1:Inv (X.comp scope (x :: x2 :: fv) C s H fp) [(D,lobj its n)] σ' H' s1) (hs:Heap.SameBut C s1.heap h') (rv:Vals ys its) (hz:ys.length <= sizeLine) :
    Inv X pins σ (upd H' D (.lst ys)) { s1 with heap:=h' }/\H' D = none:=by
 obtain ⟨eD,nD,Bz,Lr,_⟩:=I1.pin (D,lobj its n) (by simp [Cx.comp]);have Lu:D ≠ C:=Bz;have mr:H' C = none:=I1.free;have Sd:h'.get? D = some (lobj its n):=(hs.2 D Lu).trans eD;have lt:∀ b o,s.heap.get? b = some o->b ≠ C/\b ≠ D:=fun b o e=>⟨Nat.ne_of_lt (Nat.lt_of_lt_of_le (Heap.lt_size e) hC),Nat.ne_of_lt (Nat.lt_of_lt_of_le (Heap.lt_size e) hD)⟩
 have U:Un (rT X.stack) fp H H' s.heap s1.heap:=I1.base;have ou:∀ b u,H' b = some u->b ≠ D:=fun b u e=>aY e nD
 have U':Un (rT X.stack) fp H (upd H' D (.lst ys)) s.heap h':=by
  refine ⟨fun b o e n hb he=>?_,fun b o e n hb he=>?_,fun b o e n he=>?_,fun b o e he=>?_,fun b xs e=>?_,fun b o u e=>?_,fun b ps e=>?_⟩
  ·exact (hs.2 b (lt b o e).1).trans (U.keep b o e n hb he)
  ·obtain ⟨sl,q⟩:=U.slot b o e n hb he;exact ⟨sl,(hs.2 b (lt b o e).1).trans q⟩
  ·rw [aj (lt b o e).2];exact U.free b o e n he
  ·obtain ⟨o',q⟩:=U.there b o e he;exact ⟨o',(hs.2 b (lt b o e).1).trans q⟩
  ·have:=U.tups b xs e;rw [aj (ou b _ this)];exact this
  ·have:=U.frzs b o u e;rw [aj (ou b _ this)];exact this
  ·obtain ⟨more,this⟩:=U.tbls b ps e;exact ⟨more,by rw [aj (ou b _ this)];exact this⟩
 have hok:HOk X.prog X.w (upd H' D (.lst ys)) h':=fun b u e=>by
  by_cases hb:b = D
  ·subst hb;rw [ak] at e
   cases e
   exact ⟨hz,its,n,rv,Sd⟩
  ·rw [aj hb] at e;refine (I1.hok b u e).stay (fun c v hc q=>(hs.2 c ?_).trans q) (fun c q=>by rw [aj (ou c _ q)];exact q) fun c xs q=>by rw [aj (ou c _ q)];exact q
   rintro rfl
   rcases hc with hc | hc
   ·rw [<- hc,mr] at e;cases e
   ·rw [mr] at hc;cases hc
 exact ⟨I.call' (s':={ s1 with heap:=h' }) (ch:=fp) I1.os U' hok I1.bare fun b hb=>⟨(f2 b hb).2.2.2.1,(f2 b hb).2.1,(f2 b hb).2.2.2.2.1,(f2 b hb).2.2.2.2.2⟩,nD⟩
theorem K' {elt iter : Expr} {ifs : List Expr} {px KN KQ : Pos} {kt : Nat} {wi : TI} {tt : TT} {osc : Scope} (hc : X.calm = true) (S₀ : LcScope2 scope x x2 fv osc) (wm : ix.map (fun i => X.N[i]?) = fv.map some) (hi : PI X (.Tuple [.Name x px, .Name x2 KN] kt KQ) iter wi)
    (ht:∀ (C:Addr) (s₀:Shared) (H₀:Hp) (ex:List Addr),Bv (X.comp scope (x :: x2 :: fv) C s₀ H₀ ex) ifs tt)
    (he:∀ (C:Addr) (s₀:Shared) (H₀:Hp) (ex:List Addr),PE (X.comp scope (x :: x2 :: fv) C s₀ H₀ ex) elt te)
    (oI:X.env.scope = osc:=by rfl) (hs:∀ x,foldedSetIterable iter X.env x = pure x:=by intro _;rfl):PE X (.ListComp elt [⟨.Tuple [.Name x px,.Name x2 KN] kt KQ,iter,ifs,0⟩] scope pos) (JR X.K ix wi tt te):=by
 have S:LcScope2 scope x x2 fv X.env.scope:=oI ▸ S₀;intro pins s σ H Q I h;rw [eval_ListComp];refine wpAny_comprehension_free (use:=none) (cl:=gh scope X.env) rfl hs (gg (S.cells I.ok)) S.kind S.names ?_;refine bw (hi pins s σ H _ I h) fun v s1 h1=>bw h1 fun N1 s2 h2=>?_
 obtain ⟨it,fp,tn,J,H2,e,I2,T,Fd,f2,W,⟨m0,w0⟩,turn⟩:=h2;subst e;have fl:∀ b ∈ fp,b < s2.heap.objs.size:=fun b hb=>by obtain ⟨o,e,_⟩:=T.obj _ _ Fd b hb;exact Heap.lt_size e
 refine wpAny_newObj_type (wpAny_newFunctionEnv S.nocell (by intro y hy;simp at hy) (fun h₁ cQ cb=>?_) S.kind);dsimp only at cQ cb ⊢;generalize uS:s2.heap.push { cls:=.type "list",dict:=none,data:=.seq ([]:List Value).toArray } = A3 at cQ cb ⊢;have TV:A3.objs.size = s2.heap.objs.size + 1:=by rw [<- uS,Heap.size_push]
 generalize TX:A3.objs.size = C at cQ cb ⊢;generalize zx:s2.heap.objs.size = D at *;have Bf:D ≠ C:=by omega
 have hD:s2.heap.objs.size <= D:=by omega
 have hC:s2.heap.objs.size <= C:=by omega
 have Ji:∀ b:Nat,b < s2.heap.objs.size->b ≠ C:=fun b hb=>by omega
 have Jh:∀ b:Nat,b < s2.heap.objs.size->b ≠ D:=fun b hb=>by omega
 have old:∀ b o,s2.heap.get? b = some o->h₁.get? b = some o:=fun b o e=>cb.extBut b o (Ji b (Heap.lt_size e)) (Heap.get?_push_of_some _ (uS ▸ Heap.get?_push_of_some _ e))
 have kL:h₁.get? D = some (lobj [] 0):=cb.extBut _ _ Bf (Heap.get?_push_of_some _ (uS ▸ zx ▸ Heap.get?_push_size _ rfl));have Aa:tn 0 h₁:=T.keep _ _ _ Fd fun b _ o e=>old b o e
 have I3:Inv (X.comp scope (x :: x2 :: fv) C s2 H2 fp) [(D,lobj [] 0)] (none :: none :: pick ix σ) H2 { s2 with heap:=h₁,toks:=s2.toks + ([]:List (Str × Value)).length }:=wL S wm I2 hD Bf hC f2 (fun b hb=>zx.symm ▸ fl b hb) cQ old kL
 have En:∀ b ∈ fp,b ≠ D:=fun b hb=>Jh b (zx.symm ▸ fl b hb)
 have jZ:=S.cells I2.ok;have jQ:∀ {H':Hp} {its:List Value} {n:Nat},(∀ b ∈ fp,H' b = none)->∀ b ∈ fp,FpOk (X.comp scope (x :: x2 :: fv) C s2 H2 fp) [(D,lobj its n)] H' b:=fun {H' its n} hn b hb=>by
  obtain ⟨_,g1,g2,g3,g4,g5⟩:=f2 b hb;refine ⟨hn b hb,(Ji b (zx.symm ▸ fl b hb)),fun z=>?_,.inl hb,fun y c h1=>g4 y c (aQ jZ h1),fun p hp=>?_⟩
  ·rcases List.mem_cons.mp (I2.stkSub b z) with z | z
   ·exact g1 z
   ·exact g2 z
  ·have qc:p = (D,lobj its n):=by simpa [Cx.comp] using hp
   rw [qc];exact (En b hb).symm
 have loop : ∀ s3 : Shared, s3 = { s2 with heap := h₁, toks := s2.toks + ([] : List (Str × Value)).length } ->
     codeAny (model X.prog X.w) X.A (.compLoop (.ListComp elt [⟨.Tuple [.Name x px,.Name x2 KN] kt KQ,iter,ifs,0⟩] scope pos) 0 (.ref it) (.ref D) (compEnvC scope (gh scope X.env) C X.env))
      (compPost (model X.prog X.w) X.A X.xe none (EP X pins σ Q) (.ref D) C) s3:=by
  rintro s3 rfl;refine cf (fun n s'=>∃ i ys its k H' o' VB,Inv (X.comp scope (x :: x2 :: fv) C s2 H2 fp) [(D,lobj its k)] (o' :: VB :: pick ix σ) H' s'/\tn i s'.heap/\(∀ b ∈ fp,H' b = none)/\Vals ys its/\ys.length <= sizeLine/\W i n ys H') ?_ m0
   ⟨0,[],[],0,H2,none,none,I3,Aa,fun b hb=>(f2 b hb).1,.nil,Nat.zero_le _,w0⟩
  rintro n s4 ⟨i,ys,its,k,H4,o4,YZ,I4,IP,JC,y8,Jq,w4⟩
  rcases turn i n ys H4 w4 with ⟨stop,q⟩ | ⟨go,eR,step⟩
  ·refine bw (T.done (X.comp scope (x :: x2 :: fv) C s2 H2 fp) rfl rfl rfl hc i _ s4 _ H4 _ I4 (jQ JC) IP stop) fun r s5 ⟨hr,I5⟩=>?_
   subst hr;obtain ⟨m5,Oj,_⟩:=id I5.loc;refine ⟨m5,Oj,fun h6 Q9=>?_⟩;obtain ⟨I6,nD⟩:=Bo I2 hD hC f2 I5 Q9 y8 Jq;exact ⟨.ref D,_,I6,rfl,q D nD⟩
  ·refine bw (T.item (X.comp scope (x :: x2 :: fv) C s2 H2 fp) rfl rfl rfl hc i _ s4 _ H4 _ I4 (jQ JC) IP go) fun r s5 ⟨u,hr,h5⟩=>?_
   subst hr;refine bw h5 fun _ s6 ⟨xv,H6,I6,r6,y6,vi,OM⟩=>?_
   have Pe:=I6.pinned (jQ OM) (T.obj _ _ vi);obtain ⟨ta,v1,v2,et,Wc,q7⟩:=step xv H6 y6;have Yu:PG (X.comp scope (x :: x2 :: fv) C s2 H2 fp) (.Tuple [.Name x px,.Name x2 KN] kt KQ) (Ie X.K 2 (wy (jL 0) (wy (jL 1) Ig))) :=
    Dv (X:=X.comp scope (x :: x2 :: fv) C s2 H2 fp) hc (og (tE S.nd rfl (.inl (lookup_relabel_local S.tgt)) (.inr (lookup_relabel_local S.tgt))) (og (tE S.nd rfl (.inl (lookup_relabel_local S.tgt2)) (.inr (lookup_relabel_local S.tgt2))) ze))
   refine bw (Yu _ s6 _ H6 xv u (fun σ7 H7=>H7 = H6/\σ7 = some v1 :: some v2 :: pick ix σ) Pe r6 ⟨ta,[v1,v2],et,Wc,rfl,v1,[v2],rfl,v2,[],rfl,rfl,rfl,rfl⟩) fun _ s7 ⟨σ7,H7,I7,eH,eσ⟩=>?_
   subst eH eσ;refine bw (ht C s2 H2 fp _ s7 _ H7 _ I7 q7) fun b s8 ⟨H8,I8,q8⟩=>?_
   have fJ:∀ {H9:Hp} {σ9:St} {s9:Shared} (I9:Inv (X.comp scope (x :: x2 :: fv) C s2 H2 fp) ([(D,lobj its k)] ++ cp fp s6.heap) σ9 H9 s9),(∀ b ∈ fp,∀ o,s6.heap.get? b = some o->s9.heap.get? b = some o/\H9 b = none):=fun {H9 σ9 s9} I9 b hb o e =>
    ⟨(I9.pin (b,o) (List.mem_append_right _ (List.mem_append_right _ (bZ hb e)))).1,(I9.pin (b,o) (List.mem_append_right _ (List.mem_append_right _ (bZ hb e)))).2.1⟩
   cases b with
   | false =>
    rw [if_neg Bool.false_ne_true] at q8 ⊢;obtain ⟨m',hm,w8⟩:=q8;refine ⟨m',hm,i + 1,ys,its,k,H8,some v1,some v2,I8.unpinned,T.keep _ _ _ vi fun b hb o e=>(fJ I8 b hb o e).1,fun b hb=>?_,y8,Jq,w8⟩;obtain ⟨o,e,_⟩:=T.obj _ _ vi b hb;exact (fJ I8 b hb o e).2
   | true =>
    rw [if_pos rfl] at q8 ⊢;refine bw (he C s2 H2 fp _ s8 _ H8 _ I8 q8) fun y s9 ⟨yv,H9,I9,r9,q9⟩=>?_
    obtain ⟨m',hm,w9⟩:=q9;obtain ⟨eD,nD,Bz,Lr,_⟩:=I9.pin (D,lobj its k) (by simp [Cx.comp]);have hlen:=y8.length;refine wpAny_list_append_plain (items:=its.toArray) ⟨k,eD⟩ (fun JB Ee wg=>?_) (by rw [List.size_toArray];omega)
    obtain ⟨k',OR⟩:=Ee;have J9:Inv (X.comp scope (x :: x2 :: fv) C s2 H2 fp) (cp fp s6.heap) (some v1 :: some v2 :: pick ix σ) H9 s9:=I9.pins_of fun p hp=>I9.pin p (List.mem_append_right _ (List.mem_append_right _ hp))
    have Pc:Inv (X.comp scope (x :: x2 :: fv) C s2 H2 fp) (cp fp s6.heap) (some v1 :: some v2 :: pick ix σ) H9 { s9 with heap:=JB } :=
     J9.turned (t':=s9.toks) (it:=D) (fun b o hb e=>(wg.2 b hb).trans e) nD Bz (.inr hD) (fun y c h1 z=>by
      obtain ⟨_,o,ho,_⟩:=I2.cell y c (aQ jZ h1);exact Jh c (Heap.lt_size ho) z) (fun p hp z=>by
      obtain ⟨hb,_⟩:=jo (show p ∈ cp fp s6.heap by simpa [Cx.comp] using hp);exact En p.1 hb z)
    have Ew:JB.get? D = some (lobj (its ++ [y]) k'):=by
     rw [OR];simp [lobj]
    refine ⟨m',hm,i + 1,ys ++ [yv],its ++ [y],k',H9,some v1,some v2,Pc.pins_of fun p hp=>?_,T.keep _ _ _ vi fun b hb o e=>(wg.2 b (En b hb)).trans (fJ I9 b hb o e).1,fun b hb=>?_,y8.append (.cons r9 .nil),?_,w9⟩
    ·have qc:p = (D,lobj (its ++ [y]) k'):=by simpa using hp
     subst qc;exact ⟨Ew,nD,Bz,Lr,fun v z=>by have z':Data.seq _ _ = Data.cell v:=z;cases z'⟩
    ·obtain ⟨o,e,_⟩:=T.obj _ _ vi b hb;exact (fJ I9 b hb o e).2
    ·rw [List.length_append,List.length_singleton];omega
 exact codeAny_compStart_list (loop _ rfl) (T.self _ 0 _ _ _ Aa (loop _ rfl))
theorem O3 {elt iter : Expr} {ifs : List Expr} {px KN KQ : Pos} {kt : Nat} {osc : Scope} {wi : TI} {tt : TT} (hc : X.calm = true) (S₀ : LcScope2 scope x x2 fv osc) (wm : ix.map (fun i => X.N[i]?) = fv.map some) (hi : BI X (.Tuple [.Name x px, .Name x2 KN] kt KQ) iter wi)
    (ht:∀ (C:Addr) (s₀:Shared) (H₀:Hp) (ex:List Addr),BF (X.comp scope (x :: x2 :: fv) C s₀ H₀ ex) ifs tt) (he:∀ (C:Addr) (s₀:Shared) (H₀:Hp) (ex:List Addr),BE (X.comp scope (x :: x2 :: fv) C s₀ H₀ ex) elt te)
    (oI:X.env.scope = osc:=by rfl) (hs:∀ x,foldedSetIterable iter X.env x = pure x:=by intro _;rfl):BE X (.ListComp elt [⟨.Tuple [.Name x px,.Name x2 KN] kt KQ,iter,ifs,0⟩] scope pos) (JR X.K ix wi tt te) :=
 ⟨K' hc S₀ wm hi.h (fun C s₀ H₀ ex=>(ht C s₀ H₀ ex).h) (fun C s₀ H₀ ex=>(he C s₀ H₀ ex).h) oI hs⟩
end
end L2
namespace L2
open PySem PySem.Spec PySem.W PyProof.Rows
variable {qual:Str} {P:Addr} {pos:Pos}
section
variable {Md:Model} {A:Around} {E:Value->Shared->Prop} {s:Shared} {name:Str} {params:Arguments} {body:Expr} {scope:Scope} {env:Env} {c c':Addr} {ps:Array Value} {firstLine:Nat} {mg:Str->Option Value} {Q:Value->Shared->Prop}
theorem HH (hc : closureFor scope env = pure []) (hg : env.globals = mainGlobals) (hn : s.heap.Ns mainGlobals mg) (jF : env.code = .ref c) (hC : CodeHd s.heap c P) (hP : s.heap.get? P = some (tabObj ps)) (ht : TriplesOk ps.toList) (hm : codeAmong pos ps.toList = some (.ref c')) (hB : s.heap.BuiltinsAt mg P)
    (q:∀ iP,Q (.ref s.heap.objs.size) { s with heap:=s.heap.push (kla_obj name qual params body scope [] ((mg (Str.ofString "__name__")).getD .none) c' iP) }):wpAny Md A (makeFunction name qual params (.expr body) scope env [] [] [] pos firstLine) Q E s:=by
 rw [makeFunction_eq];dsimp only;rw [if_pos (show ([]:List Value).isEmpty = true from rfl)];refine wpAny_bind (wpAny_pure ?_);rw [List.zip_nil_right,List.filterMap_nil,if_pos (show ([]:List (Str × Value)).isEmpty = true from rfl)];refine wpAny_bind (wpAny_pure ?_);refine wpAny_bind (wpAny_pure ?_);unfold makeTail;rw [hc];refine wpAny_bind (wpAny_pure ?_);dsimp only;rw [if_pos (show ([]:List (Str × Addr)).isEmpty = true from rfl)];refine wpAny_bind (wpAny_pure ?_);refine wpAny_bind (wpAny_functionCode_hit jF (hC.code hP ht) hm ?_);obtain ⟨bm,ob,b1,b2,b3,b4,b5,b6,b7,b8⟩:=hB;rw [hg];refine wpAny_bind (wpAny_builtinsFor hn b1 b2 b5 b6 b7 b8 ?_);refine wpAny_bind (wpAny_nsGet hn ?_);refine wpAny_bind (wpAny_pure ?_);refine wpAny_newObj_type (q .none) ?_;trivial
end
def TabOk (P:Addr) (pos:Pos) (qual:Str) (H:Hp):Prop:=∃ ps,H P = some (.tbl ps)/\TriplesOk ps.toList/\(codeAmong pos ps.toList = none \/ ∃ c',codeAmong pos ps.toList = some (.ref c')/\H c' = some (.ext (fj qual c')))
theorem TabOk.start {H:Hp} (h:H P = some (.tbl #[])):TabOk P pos qual H:=⟨#[],h,trivial,.inl rfl⟩
theorem TabOk.same {H H':Hp} (h:TabOk P pos qual H) (s:Same H H'):TabOk P pos qual H':=by
 obtain ⟨ps,h1,h2,h3⟩:=h;exact ⟨ps,s _ _ h1,h2,h3.imp id fun ⟨c',a,b⟩=>⟨c',a,s _ _ b⟩⟩
end L2
namespace L2
open PySem PySem.Spec PyProof.Rows
section
variable {X:Cx} {K:W.Frag} {σ:St} {H:Hp} {Q:VK} {o i value:Expr} {td ty tv:TE} {pos pos':Pos}
theorem IB:BE X (.Dict [] [] pos) xN:=⟨DB⟩
theorem EL (hu:X.A.units + 1 < cLine) (ho:BE X o td) (hi:BE X i ty) (hv:BE X value tv) (hs:swapsWith value (some (.Subscript o i pos')) pos.line X.env = pure false:=by rfl):BS X (.Assign [.Subscript o i pos'] value pos) (vx td ty tv):=⟨zb hu ho.h hi.h hv.h hs⟩
theorem IC (hu:X.A.units + 1 < cLine) (ho:BE X o td) (hi:BE X i ty) (hs:IG i):BE X (.Subscript o i pos) (vg td ty):=⟨zf hu ho.h hi.h hs⟩
instance YB {D:Ends}:aV (vx td ty tv D σ H) (tv σ H fun v H1=>td σ H1 fun x H2=>ty σ H2 fun y H3=>∃ a H4,x = .ref a/\DPut H3 a y v H4/\D.nx σ H4):=⟨id⟩
instance YA:aV (vg td ty σ H Q) (td σ H fun x H1=>ty σ H1 fun y H2=>∃ a v,x = .ref a/\DGet H2 a y (some v)/\Q v H2):=⟨id⟩
instance Yz {t:TA} {tk:TE}:aV (xM X t tk σ H Q) (t σ H fun vs H1=>tk σ H1 fun f H2=>nY X vs f H2 Q):=⟨id⟩
instance Yy {ix:List Nat} {wi:TI} {tt:TT} {te:TE}:aV (JR K ix wi tt te σ H Q) (wi σ H fun J H1=>MC K J ix σ tt te Q H1):=⟨id⟩
theorem C9 (h:∀ p H1,H p = none->Same H H1->H1 p = some (.dT [])->Q (.ref p) H1):xN σ H Q:=fun p hp=>h p _ hp (aE hp) ak
theorem C8 {a b:Addr} {kvs:List (List Key × V)} {k:List Key} {v:V} {F:Hp->Prop} (e:H a = some (.dT kvs)) (eb:H b = some (.tup (k.map kV))) (hl:kvs.length < sizeLine) (h:F (upd H a (.dT (putK kvs k v)))):∃ a' H4,V.ref a = .ref a'/\DPut H a' (.ref b) v H4/\F H4:=⟨a,_,rfl,DPut.t e eb hl,h⟩
end
end L2
namespace SW
open PySem PySem.SetTable
variable {xs:Array Nat} {j:Nat} {α:Type} {t:SetTable} {h:Int}
abbrev qd (xs:Array Nat):Prop:=xs.toList.Pairwise (· < ·)
theorem tm (h:qd xs) {i k:Nat} (WK:i < k) (hk:k < xs.size):xs[i]'(by omega) < xs[k]:=by
 have:=List.pairwise_iff_getElem.mp h i k (by rw [Array.length_toList];omega) (by rw [Array.length_toList];omega) WK;simpa using this
theorem EU (hr : qd xs) : ∀ (f lo hi : Nat), lo <= hi -> hi <= xs.size -> hi - lo <= f -> (∀ i (h : i < xs.size), i < lo -> xs[i] < j) -> (∀ i (h : i < xs.size), hi <= i -> j <= xs[i]) ->
    below.go xs j f lo hi <= xs.size/\(∀ i (h:i < xs.size),i < below.go xs j f lo hi->xs[i] < j)/\∀ i (h:i < xs.size),below.go xs j f lo hi <= i->j <= xs[i]:=by
 intro f
 induction f with
 | zero =>
  intro lo hi h1 h2 h3 h4 h5;unfold below.go;have:lo = hi:=by omega
  subst this;exact ⟨h2,h4,h5⟩
 | succ f ih =>
  intro lo hi h1 h2 h3 h4 h5;unfold below.go
  by_cases hl:lo < hi
  ·rw [if_pos hl];dsimp only;have hm:(lo + hi) / 2 < xs.size:=by omega
   have e:xs.getD ((lo + hi) / 2) j = xs[(lo + hi) / 2]:=by simp [Array.getD,hm]
   rw [e]
   by_cases hx:xs[(lo + hi) / 2] < j
   ·rw [if_pos hx];refine ih _ _ (by omega) h2 (by omega) (fun i h MV=>?_) h5
    by_cases Rt:i = (lo + hi) / 2
    ·subst Rt;exact hx
    ·exact Nat.lt_trans (tm hr (show i < (lo + hi) / 2 by omega) hm) hx
   ·rw [if_neg hx];refine ih _ _ (by omega) (by omega) (by omega) h4 (fun i h MV=>?_)
    by_cases Rt:i = (lo + hi) / 2
    ·subst Rt;omega
    ·have:=tm hr (show (lo + hi) / 2 < i by omega) h;omega
  ·rw [if_neg hl];have:lo = hi:=by omega
   subst this;exact ⟨h2,h4,h5⟩
theorem j0 (hr:qd xs):below xs j <= xs.size/\(∀ i (h:i < xs.size),i < below xs j->xs[i] < j)/\∀ i (h:i < xs.size),below xs j <= i->j <= xs[i]:=by
 unfold below;exact EU hr _ _ _ (Nat.zero_le _) (Nat.le_refl _) (by omega) (fun i h z=>by omega) (fun i h z=>by omega)
theorem jK (xs:Array α) (p:Nat) (x:α):(insertAt xs p x).toList = xs.toList.take p ++ x :: xs.toList.drop p:=by
 unfold insertAt;simp [List.take_of_length_le]
theorem insertAt_perm (xs:Array α) (p:Nat) (x:α):(insertAt xs p x).toList.Perm (xs.toList ++ [x]):=by
 rw [jK];refine (List.perm_middle).trans ?_;rw [List.take_append_drop];exact (List.perm_append_singleton x xs.toList).symm
theorem ya (hr:qd xs) (hn:xs[below xs j]? ≠ some j):qd (insertAt xs (below xs j) j):=by
 obtain ⟨h1,h2,h3⟩:=j0 (j:=j) hr;unfold qd;rw [jK,List.pairwise_append];refine ⟨hr.sublist (List.take_sublist _ _),?_,fun a ha b hb=>?_⟩
 ·rw [List.pairwise_cons];refine ⟨fun b hb=>?_,hr.sublist (List.drop_sublist _ _)⟩;obtain ⟨i,hi,e⟩:=List.getElem_of_mem hb;rw [List.getElem_drop] at e;rw [List.length_drop,Array.length_toList] at hi;have h4:=h3 (below xs j + i) (by omega) (by omega);rw [Array.getElem_toList] at e;rw [<- e]
  by_cases z:j = xs[below xs j + i]
  ·cases i with
   | zero=>exact absurd (by rw [Array.getElem?_eq_getElem (by omega)];exact congrArg some z.symm) hn
   | succ i =>
    have h5:=h3 (below xs j) (by omega) (Nat.le_refl _);have h6:=tm hr (show below xs j < below xs j + (i + 1) by omega) (by omega);omega
  ·omega
 ·obtain ⟨i,hi,e⟩:=List.getElem_of_mem ha;rw [List.getElem_take] at e;rw [List.length_take,Array.length_toList] at hi;rw [Array.getElem_toList] at e;have RQ:a < j:=by rw [<- e];exact h2 i (by omega) (by omega)
  rcases List.mem_cons.mp hb with rfl | hb
  ·exact RQ
  ·obtain ⟨k,hk,e'⟩:=List.getElem_of_mem hb;rw [List.getElem_drop] at e';rw [List.length_drop,Array.length_toList] at hk;rw [Array.getElem_toList] at e';have:=h3 (below xs j + k) (by omega) (by omega);omega
theorem yH (hr:qd xs) {i:Nat} (h:i < xs.size):below xs (xs[i] + 1) = i + 1:=by
 obtain ⟨h1,h2,h3⟩:=j0 (j:=xs[i] + 1) hr
 by_cases a:below xs (xs[i] + 1) <= i
 ·have:=h3 i h a;omega
 ·by_cases b:i + 1 < below xs (xs[i] + 1)
  ·have:=h2 (i + 1) (by omega) b;have:=tm hr (show i < i + 1 by omega) (by omega);omega
  ·omega
theorem yG (hr:qd xs):below xs 0 = 0:=by
 obtain ⟨h1,h2,h3⟩:=j0 (j:=0) hr
 by_cases a:below xs 0 = 0
 ·exact a
 ·have:=h2 0 (by omega) (by omega);omega
def Ph (t:SetTable) (j:Nat):Prop:=t.place[below t.place j]? ≠ some j
theorem zI (h:∀ i,t.slot j ≠ .live i):Ph t j:=fun z=>by
 refine h (below t.place j) ?_;unfold SetTable.slot;dsimp only;rw [if_pos (by rw [z];exact beq_self_eq_true _)]
theorem Dq : ∀ (f : Nat) (p : Probe), (∀ d, p.dummy = some d -> ∀ i, t.slot d ≠ .live i) -> ∀ m, probe.go t (fun _ => h + 1) h f p = some m ->
    ∃ j d,m = .empty j d/\(∀ i,t.slot j ≠ .live i)/\∀ e,d = some e->∀ i,t.slot e ≠ .live i:=by
 intro f
 induction f with
 | zero=>intro p hd m e;unfold probe.go at e;cases e
 | succ f ih =>
  intro p hd m e;unfold probe.go at e;have Uw:∀ q:Probe,(t.advance q).dummy = q.dummy:=fun q=>by
   unfold SetTable.advance
   split <;> rfl
  split at e
  ·next hs =>
   cases e
   exact ⟨_,_,rfl,(fun i z=>by rw [hs] at z;cases z),hd⟩
  ·next hs =>
   refine ih _ (fun d A'=>?_) m e;rw [Uw] at A'
   cases A'
   intro i z;rw [hs] at z
   cases z
  ·next i hs =>
   rw [if_neg (by simp;omega)] at e;refine ih _ (fun d A'=>?_) m e;rw [Uw] at A';exact hd d A'
theorem Bg {b:Bool} (e:t.freeSlot h = some (j,b)):Ph t j:=by
 unfold SetTable.freeSlot at e
 split at e
 ·next j' d hp =>
  obtain ⟨j2,d2,e2,h1,h2⟩:=Dq _ _ (fun d z=>by cases z) _ hp
  cases e2
  cases d with
  | none=>cases e;exact zI h1
  | some d=>cases e;exact zI (h2 d rfl)
 ·cases e
theorem jk (n:Nat):qd (Array.range n):=by
 unfold qd;rw [Array.toList_range];exact List.pairwise_lt_range
theorem ei (t:SetTable) (n:Nat):(t.standIn n).fits n = true:=by
 unfold SetTable.fits SetTable.standIn SetTable.fill;simp;omega
abbrev SE:=Array (Int × Value)
variable {es:SE}
theorem tI {n:Nat} (hr:qd t.place):qd (t.orStandIn n).place/\(t.orStandIn n).led = t.led/\(t.orStandIn n).fits n = true:=by
 unfold SetTable.orStandIn
 by_cases h:t.fits n = true
 ·rw [if_pos h];exact ⟨hr,rfl,h⟩
 ·rw [if_neg h];exact ⟨jk _,rfl,ei _ _⟩
theorem AO {x:Value} (hr:qd t.place):(layNew t es h x).1.toList.Perm (es.toList ++ [(h,x)])/\qd (layNew t es h x).2.1.place/\(layNew t es h x).2.1.led = t.led/\(layNew t es h x).2.1.fits (layNew t es h x).1.size = true:=by
 unfold layNew
 cases e:t.freeSlot h with
 | some r =>
  obtain ⟨j,b⟩:=r;have hp:qd (t.put j).1.place:=ya hr (Bg e);obtain ⟨h1,h2,h3⟩:=tI (n:=(insertAt es (t.put j).2 (h,x)).size) hp;exact ⟨insertAt_perm _ _ _,h1,h2,h3⟩
 | none =>
  refine ⟨?_,jk _,rfl,?_⟩
  ·show (es.push (h,x)).toList.Perm _;rw [Array.toList_push]
  ·show (t.standIn (es.size + 1)).fits (es.push (h,x)).size = true;rw [show (es.push (h,x)).size = es.size + 1 by simp];exact ei _ _
theorem CY {mask finger moves:Nat} {led plain:Bool} {hs:Array Int} {order:Array Nat} (e:laid mask finger moves led plain hs = some (t,order)):qd t.place/\t.led = led:=by
 unfold laid at e;obtain ⟨owner,_,e⟩:=Option.bind_eq_some_iff.mp e
 cases e
 refine ⟨?_,rfl⟩;unfold qd;dsimp only;rw [List.map_filterMap];refine List.Pairwise.filterMap _ ?_ List.pairwise_lt_range;intro a a' WZ b hb b' M3
 cases h1:owner.getD a none with
 | none=>rw [h1] at hb;cases hb
 | some u =>
  cases h2:owner.getD a' none with
  | none=>rw [h2] at M3;cases M3
  | some u' =>
   rw [h1] at hb;rw [h2] at M3
   cases hb;cases M3
   exact WZ
theorem Er {α β:Type} {f:β->Option α}:∀ {l:List β} {r:List α},l.map f = r.map some->l.filterMap f = r
 | [],[],_=>rfl
 | [],_ :: _,h=>by simp at h
 | _ :: _,[],h=>by simp at h
 | b :: l,a :: r,h=>by
  simp only [List.map_cons,List.cons.injEq] at h;rw [List.filterMap_cons,h.1];exact congrArg (a :: ·) (Er h.2)
theorem range_items (es:Array α):(List.range es.size).filterMap (fun i=>es[i]?) = es.toList:=by
 have e:(List.range es.size).map (fun i=>es[i]?) = es.toList.map some:=by
  apply List.ext_getElem
  ·simp
  ·intro i h1 h2;simp at h1;simp [h1]
 exact Er e
theorem vz {n:Nat}:(relayAll t es n).1.toList.Perm es.toList/\qd (relayAll t es n).2.1.place/\(relayAll t es n).2.1.led = t.led/\(relayAll t es n).2.1.fits (relayAll t es n).1.size = true:=by
 unfold relayAll
 split
 ·next t' order e =>
  dsimp only
  split
  ·next hc =>
   rw [Bool.and_eq_true] at hc;obtain ⟨h1,h2⟩:=CY (show laid _ _ _ _ _ _ = some (t',order) from e);refine ⟨?_,h1,h2,hc.2⟩;have hp:order.toList.Perm (List.range es.size):=List.isPerm_iff.mp hc.1;dsimp only;rw [Array.toList_filterMap];refine (hp.filterMap _).trans ?_;rw [range_items]
  ·exact ⟨.refl _,jk _,rfl,ei _ _⟩
 ·exact ⟨.refl _,jk _,rfl,ei _ _⟩
section
variable {prog:Program} {w:World} {κ:Type} [DecidableEq κ] (kd:KeyKind prog w κ)
def xf (k:κ) (e:Int × Value):Prop:=kd.is k e.2 = true/\e.1 = kd.hash k/\e.2.scannable = true
def rK (w:World):Bool:=!(w.params.followText "set-order")
def SetW (h:Heap) (a:Addr) (ks:List κ):Prop :=
 ∃ (o:Obj) (es:SE) (ep:Nat) (t:SetTable) (L:List (κ × (Int × Value))),h.get? a = some o/\o.ExactSet/\o.data = .set es ep t/\L.map (·.2) = es.toList/\(L.map (·.1)).Perm ks/\(∀ p ∈ L,xf kd p.1 p.2)/\es.size < scanBound/\t.fits es.size = true/\qd t.place/\t.led = rK w
variable {kd} {A:Around} {E:Value->Shared->Prop} {s:Shared} {a:Addr} {ks:List κ} {k:κ} {x:Value}
theorem Eu {L:List (κ × (Int × Value))} (l1:L.map (·.2) = es.toList) (l3:∀ p ∈ L,xf kd p.1 p.2):ElemsOf kd es.toList:=fun e he=>by
 rw [<- l1] at he;obtain ⟨p,hp,rfl⟩:=List.mem_map.mp he;obtain ⟨a1,a2,a3⟩:=l3 p hp;exact ⟨⟨p.1,a1,a2⟩,a3⟩
theorem SetW.kept {h h':Heap} (S:SetW kd h a ks) (e:∀ o,h.get? a = some o->h'.get? a = some o):SetW kd h' a ks:=by
 obtain ⟨o,es,ep,t,L,ho,r⟩:=S;exact ⟨o,es,ep,t,L,e o ho,r⟩
theorem vh {h : Heap} {o : Obj} {es1 : SE} {ep : Nat} {t1 : SetTable} {L : List (κ × (Int × Value))} (ho : h.get? a = some o) (hx : o.ExactSet) (hd : o.data = .set es ep t) (l1 : L.map (·.2) = es1.toList) (l2 : (L.map (·.1)).Perm ks) (l3 : ∀ p ∈ L, xf kd p.1 p.2)
    (hb:es1.size < scanBound) (hf:t1.fits es1.size = true) (hr:qd t1.place) (hl:t1.led = rK w):(h.update a (Obj.putSet es1 t1)).get? a = some { o with data:=.set es1 (ep + 1) t1 }/\SetW kd (h.update a (Obj.putSet es1 t1)) a ks:=by
 have g:(h.update a (Obj.putSet es1 t1)).get? a = some { o with data:=.set es1 (ep + 1) t1 }:=by
  have z:=Heap.get?_update_self (Obj.putSet es1 t1) ho (by rw [putSet_of es1 t1 hd];rfl)
  rwa [putSet_of es1 t1 hd] at z
 exact ⟨g,_,es1,ep + 1,t1,L,g,hx,rfl,l1,l2,l3,hb,hf,hr,hl⟩
theorem yR {g : Bool -> Sem Unit} (hg : ∀ (b : Bool) (s1 : Shared) (P : Unit -> Shared -> Prop), P () s1 -> wpAny (model prog w) A (g b) P E s1) {o : Obj} {es1 : SE} {ep : Nat} {t1 : SetTable} {L : List (κ × (Int × Value))} (ho : s.heap.get? a = some o) (hx : o.ExactSet) (hd : o.data = .set es ep t)
    (l1:L.map (·.2) = es1.toList) (l2:(L.map (·.1)).Perm ks) (l3:∀ p ∈ L,xf kd p.1 p.2) (hb:es1.size < scanBound) (hf:t1.fits es1.size = true) (hr:qd t1.place) (hl:t1.led = rK w) {wd:Bool} {R:Option Bool->Shared->Prop}
    (q:∀ h',Heap.SameBut a s.heap h'->SetW kd h' a ks->R (some true) { s with heap:=h' }) :
    wpAny (model prog w) A (do
        storeSet a es1 t1
        if (!wd && t1.tooFull) = true then do
            g (relayAll t1 es1 (SetTable.grown es1.size)).2.2
            storeSet a (relayAll t1 es1 (SetTable.grown es1.size)).1 (relayAll t1 es1 (SetTable.grown es1.size)).2.1
            pure (some true)
         else pure (some true)) R E s:=by
 refine wpAny_bind (wpAny_storeSet_of ho hd ?_ (fits_of_scanBound hb));obtain ⟨g1,S1⟩:=vh (kd:=kd) ho hx hd l1 l2 l3 hb hf hr hl;have b1:=Heap.SameBut.update s.heap a (Obj.putSet es1 t1)
 by_cases c:(!wd && t1.tooFull) = true
 ·rw [if_pos c];obtain ⟨r1,r2,r3,r4⟩:=vz (t:=t1) (es:=es1) (n:=SetTable.grown es1.size);generalize relayAll t1 es1 (SetTable.grown es1.size) = z at r1 r2 r3 r4 ⊢;obtain ⟨L2,p1,p2⟩:=L2.perm_lift (r1.trans (.of_eq l1.symm)) L rfl;have hz:z.1.size = es1.size:=by simpa using r1.length_eq
  refine wpAny_bind (hg _ _ _ ?_);refine wpAny_bind (wpAny_storeSet_of g1 rfl ?_ (fits_of_scanBound (by rw [hz];exact hb)));obtain ⟨_,S2⟩:=vh (kd:=kd) (es1:=z.1) (t1:=z.2.1) g1 hx rfl p2.symm ((p1.map _).trans l2) (fun p hp=>l3 p (p1.mem_iff.mp hp)) (by rw [hz];exact hb) r4 r2 (r3.trans hl)
  exact wpAny_pure (q _ (b1.trans (Heap.SameBut.update _ a _)) S2)
 ·rw [if_neg c];exact wpAny_pure (q _ b1 S1)
theorem JZ {Q : Bool -> Shared -> Prop} (hk : kd.is k x = true) (hs : x.scannable = true) (S : SetW kd s.heap a ks) (room : ks.length + 1 < scanBound) (q : ∀ b h', Heap.SameBut a s.heap h' -> SetW kd h' a (if k ∈ ks then ks else ks ++ [k]) -> Q b { s with heap := h' }) :
    wpAny (model prog w) A (setAddHashed a x (kd.hash k)) Q E s:=by
 obtain ⟨o,es,ep,t,L,ho,hx,hd,l1,l2,l3,hb,hf,hr,hl⟩:=S;have el:=Eu l1 l3;have len:es.size = ks.length:=by
  have e1:=congrArg List.length l1;have e2:=l2.length_eq;simp only [List.length_map,Array.length_toList] at e1 e2;omega
 unfold setAddHashed setAddHashedIn;refine wpAny_holding (wpAny_bind (wpAny_setState_of ho hd hf ?_));dsimp only;rw [byScan_of hs hb el];simp only [↓reduceIte];unfold setAddByScan;refine wpAny_bind (wpAny_bind (wpAny_rule (wpAny_bind (wpAny_setScan_of hk ho hd hf el ?_))))
 cases e:List.findIdx? (fun e=>kd.is k e.2) es.toList with
 | some j =>
  obtain ⟨hj,hp,_⟩:=List.findIdx?_eq_some_iff_getElem.mp e;have hm:k ∈ ks:=by
   have Om:es.toList[j] ∈ L.map (·.2):=by rw [l1];exact List.getElem_mem hj
   obtain ⟨p,A3,e2⟩:=List.mem_map.mp Om;rw [<- e2] at hp;rw [kd.inj _ _ _ hp (l3 p A3).1];exact l2.mem_iff.mp (List.mem_map.mpr ⟨p,A3,rfl⟩)
  refine wpAny_pure (wpAny_pure ?_);have z:=q false s.heap (Heap.SameBut.refl a s.heap);rw [if_pos hm] at z;exact z ⟨o,es,ep,t,L,ho,hx,hd,l1,l2,l3,hb,hf,hr,hl⟩
 | none =>
  have hm:k ∉ ks:=fun z=>by
   obtain ⟨p,hp,e2⟩:=List.mem_map.mp (l2.mem_iff.mpr z);have:=List.findIdx?_eq_none_iff.mp e p.2 (by rw [<- l1];exact List.mem_map.mpr ⟨p,hp,rfl⟩);rw [<- e2,(l3 p hp).1] at this
   cases this
  obtain ⟨n1,n2,n3,n4⟩:=AO (t:=t) (es:=es) (h:=kd.hash k) (x:=x) hr;dsimp only;generalize layNew t es (kd.hash k) x = z at n1 n2 n3 n4 ⊢;obtain ⟨L',p1,p2⟩:=L2.perm_lift n1 (L ++ [(k,(kd.hash k,x))]) (by rw [List.map_append,l1];rfl);obtain ⟨es1,t1,wd,gv⟩:=z;dsimp only at n1 n2 n3 n4 p2 ⊢;have m2:(L'.map (·.1)).Perm (ks ++ [k]):=by
   refine (p1.map _).trans ?_;rw [List.map_append];exact l2.append_right _
  have m3:∀ p ∈ L',xf kd p.1 p.2:=fun p hp=>by
   rcases List.mem_append.mp (p1.mem_iff.mp hp) with h | h
   ·exact l3 p h
   ·rw [List.mem_singleton.mp h];exact ⟨hk,rfl,hs⟩
  have mz:es1.size < scanBound:=by
   have:=n1.length_eq;simp only [Array.length_toList,List.length_append,List.length_cons,List.length_nil] at this;omega
  have Ru:∀ (b:Bool) (s1:Shared) (P:Unit->Shared->Prop),P () s1->wpAny (model prog w) A (match b with | true=>rule "set.scan.the-table-gave-way" | false=>pure ()) P E s1:=fun b s1 P h=>by
   cases b
   ·exact wpAny_pure h
   ·exact wpAny_rule h
  have fin:∀ h',Heap.SameBut a s.heap h'->SetW kd h' a (ks ++ [k])->Q true { s with heap:=h' }:=fun h' b1 S'=>q true h' b1 (by rw [if_neg hm];exact S')
  refine wpAny_bind (Ru _ _ _ ?_)
  by_cases pl:t1.plain = true
  ·rw [if_pos pl];refine wpAny_bind ?_;rw [hashByValue_scannable 8 hs];refine wpAny_pure (yR (kd:=kd) Ru ho hx hd p2.symm m2 m3 mz ?_ ?_ ?_ fun h' b1 S'=>wpAny_pure (fin h' b1 S'))
   ·split
    ·exact n4
    ·exact SetTable.fits_plain_off n4
   ·split <;> exact n2
   ·split <;> exact n3.trans hl
  ·rw [if_neg pl];refine wpAny_bind (wpAny_pure ?_);simp only [↓reduceIte];exact yR (kd:=kd) Ru ho hx hd p2.symm m2 m3 mz n4 n2 (n3.trans hl) fun h' b1 S'=>wpAny_pure (fin h' b1 S')
end
end SW
namespace SW
open PySem PySem.Spec PySem.SetTable PyProof.Rows
variable {κ:Type}
def iF [DecidableEq κ] (ks:List κ) (k:κ):List κ:=if k ∈ ks then ks else ks ++ [k]
def onces [DecidableEq κ] (ks:List κ):List κ:=ks.foldl iF []
theorem DJ [DecidableEq κ] (ks:List κ) (k:κ):(iF ks k).length <= ks.length + 1:=by
 unfold iF
 split
 ·omega
 ·rw [List.length_append];exact Nat.le_refl _
theorem yp [DecidableEq κ] (ks:List κ) (k:κ):onces (ks ++ [k]) = iF (onces ks) k:=by
 unfold onces;rw [List.foldl_append]
 rfl
theorem lQ {κ:Type} [DecidableEq κ]:∀ (ks acc:List κ),acc.Nodup->(ks.foldl iF acc).Nodup/\(ks.foldl iF acc).length <= acc.length + ks.length/\∀ x,x ∈ ks.foldl iF acc ↔ x ∈ acc \/ x ∈ ks
 | [],acc,h=>⟨h,Nat.le_refl _,fun x=>by simp⟩
 | k :: ks,acc,h=>by
  have hn:(iF acc k).Nodup:=by
   unfold iF
   split
   ·exact h
   ·next hk =>
    rw [List.nodup_append];exact ⟨h,List.pairwise_singleton _ _,fun a ha b hb e=>hk (by rw [List.mem_singleton.mp hb] at e;rw [<- e];exact ha)⟩
  obtain ⟨a,b,c⟩:=lQ ks (iF acc k) hn;have:=DJ acc k;refine ⟨a,by rw [List.foldl_cons,List.length_cons];omega,fun x=>?_⟩
  rw [List.foldl_cons,c x,List.mem_cons];unfold iF
  split
  ·next hk =>
   constructor
   ·rintro (h | h)
    ·exact .inl h
    ·exact .inr (.inr h)
   ·rintro (h | h | h)
    ·exact .inl h
    ·rw [h];exact .inl hk
    ·exact .inr h
  ·rw [List.mem_append,List.mem_singleton]
   constructor
   ·rintro ((h | h) | h)
    ·exact .inl h
    ·exact .inr (.inl h)
    ·exact .inr (.inr h)
   ·rintro (h | h | h)
    ·exact .inl (.inl h)
    ·exact .inl (.inr h)
    ·exact .inr h
theorem onces_le [DecidableEq κ] (ks:List κ):(onces ks).length <= ks.length:=by unfold onces;simpa using (lQ ks [] List.nodup_nil).2.1
theorem onces_mem [DecidableEq κ] (ks:List κ) (x:κ):x ∈ onces ks ↔ x ∈ ks:=by unfold onces;simpa using (lQ ks [] List.nodup_nil).2.2 x
section
variable {prog:Program} {w:World} [DecidableEq κ] {kd:KeyKind prog w κ} {A:Around} {R:Result->Shared->Prop} {E:Value->Shared->Prop} {s:Shared}
theorem Fu {I Sa l : Addr} {its : Array Value} {ks : List κ} (hh : A.handled = none) (WE : l ≠ I) (RR : Sa ≠ I) (W3 : Sa ≠ l) (hz : its.size = ks.length) (hit : ∀ (i : Nat) (v : Value), its[i]? = some v -> ∃ k, ks[i]? = some k /\ kd.is k v = true /\ v.scannable = true) (hb : ks.length + 1 < scanBound) :
    ∀ (m i:Nat) (s:Shared),ks.length - i = m->i <= ks.length->s.heap.IsListIter I l i->s.heap.IsList l its->SetW kd s.heap Sa (onces (ks.take i)) ->
     (∀ h' tk,(∀ b o,b ≠ Sa->b ≠ I->s.heap.get? b = some o->h'.get? b = some o)->SetW kd h' Sa (onces ks)->R (.ok (.ret .none)) { s with heap:=h',toks:=tk }) ->
     codeAny (model prog w) A (.builtin "set.update.loop" ⟨[.ref Sa,.ref I],[]⟩) R s:=by
 intro m
 induction m with
 | zero =>
  intro i s hm hi st hl S q;have e:i = ks.length:=by omega
  rw [e,List.take_length] at S;refine codeAny_builtin F.entry_set_update_loop ?_;rw [Around.under_plainId F.plain_set_update_loop _];show wpAny _ A.in1 (pyNext (.ref I) >>= _) _ _ s;refine wpAny_bind (wpAny_pyNext_list_end (A:=A.in1) (by simpa using hh) st hl (by simp;omega) fun h' eb=>?_)
  show wpAny _ A.in1 (ret Value.none) _ _ _;exact wpAny_pure (q h' s.toks (fun b o _ n z=>eb b o n z) (S.kept fun o z=>eb Sa o RR z))
 | succ m ih =>
  intro i s hm hi st hl S q;have eR:i < its.size:=by omega
  obtain ⟨k,hk,yz,nJ⟩:=hit i _ (Array.getElem?_eq_getElem eR);refine codeAny_builtin F.entry_set_update_loop ?_;rw [Around.under_plainId F.plain_set_update_loop _];show wpAny _ A.in1 (pyNext (.ref I) >>= _) _ _ s;refine wpAny_bind (wpAny_pyNext_list_item (A:=A.in1) st hl (Array.getElem?_eq_getElem eR) fun h' aO sb=>?_)
  generalize its[i] = v at yz nJ;show wpAny _ A.in1 (holding [v] (setAdd Sa v) >>= _) _ _ _;refine wpAny_bind (wpAny_holding ?_);unfold setAdd;refine wpAny_holding (wpAny_bind (kd.pyHash yz ?_));have S1:SetW kd h' Sa (onces (ks.take i)):=S.kept fun o z=>(sb.2 Sa RR).trans z
  have rm:(onces (ks.take i)).length + 1 < scanBound:=by
   have:=onces_le (ks.take i);rw [List.length_take] at this;omega
  refine JZ (kd:=kd) (s:={ s with heap:=h',toks:=s.toks + 1 }) yz nJ S1 rm fun b h2 b2 S2=>?_
  have S3:SetW kd h2 Sa (onces (ks.take (i + 1))):=by
   obtain ⟨MV,e⟩:=List.getElem?_eq_some_iff.mp hk;rw [List.take_succ_eq_append_getElem MV,e,yp];exact S2
  have k2:∀ b o,b ≠ Sa->h'.get? b = some o->h2.get? b = some o:=fun b o n z=>(b2.2 b n).trans z
  refine wpAny_pure ⟨plainId_quiet F.plain_set_update_loop _,ih (i + 1) _ (by omega) (by omega) (aO.at fun o z=>k2 I o (Ne.symm RR) z) ?_ S3 fun h3 tk k3 S4=>?_⟩
  ·obtain ⟨o,z,r⟩:=hl;exact ⟨o,k2 l o (Ne.symm W3) ((sb.2 l WE).trans z),r⟩
  ·exact q h3 tk (fun b o n1 n2 z=>k3 b o n1 n2 (k2 b o n1 ((sb.2 b n2).trans z))) S4
theorem Ca {h:Heap} {a:Addr} (e:h.get? a = some { cls:=.type "set",dict:=none,data:=.set #[] 0 (.fresh 0 0 (rK w)) }):SetW kd h a [] :=
 ⟨_,#[],0,_,[],e,⟨rfl,rfl,rfl⟩,rfl,rfl,.nil,fun p hp=>(nomatch hp),by unfold scanBound;decide,rfl,List.Pairwise.nil,rfl⟩
end
end SW
namespace SW
open PySem PySem.Spec PySem.SetTable
variable {prog:Program} {w:World} {A:Around} {s:Shared} {α:Type}
section
variable {κ:Type} [DecidableEq κ] {kd:KeyKind prog w κ} {E:Value->Shared->Prop}
abbrev hW (w:World):Obj:={ cls:=.type "set",dict:=none,data:=.set #[] 0 (.fresh 0 0 (rK w)) }
theorem JY (v:Value) {P:Value->Shared->Prop} (q:P (.ref s.heap.objs.size) { s with heap:=s.heap.push (hW w) }):codeAny (model prog w) A (.call (.builtin "set.__new__") ⟨[.type "set",v],[]⟩) (wants P E) s:=by
 refine codeAny_of_tree (show wpAny _ A.in1 (do checkBuiltinCall "set.__new__" ⟨[.type "set",v],[]⟩;again (.builtin "set.__new__" ⟨[.type "set",v],[]⟩)) _ _ s from ?_);refine wpAny_bind (wpAny_of_eq (F.newCall_set_1 v) (wpAny_pure ⟨plainId_quiet F.plain_set_new _,codeAny_builtin F.entry_set_new (show wpAny _ _ _ _ _ s from ?_)⟩));rw [Around.under_plainId F.plain_set_new _];unfold Builtin.«set.__new__» Builtin.Frozenset.newClass;have subs:=sub_set_self;obtain ⟨h0,g0,d0,k0,o0⟩:=s;dsimp only
 wp_walk
 refine wpAny_askSetting (wpAny_pure ?_);dsimp only;simp only [newObj];exact wpAny_bind (wpAny_alloc (wpAny_pure (wpAny_pure q)))
theorem sw_set {l : Addr} {its : Array Value} {ks : List κ} {Q : Value -> Shared -> Prop} (hh : A.handled = none) (hl : s.heap.IsList l its) (hz : its.size = ks.length) (hit : ∀ (i : Nat) (v : Value), its[i]? = some v -> ∃ k, ks[i]? = some k /\ kd.is k v = true /\ v.scannable = true) (hb : ks.length + 1 < scanBound)
    (q:∀ h' tk,SetW kd h' s.heap.objs.size (onces ks)->(∀ b o,s.heap.get? b = some o->h'.get? b = some o)->Q (.ref s.heap.objs.size) { s with heap:=h',toks:=tk }):wpAny (model prog w) A (call (.type "set") [.ref l]) Q E s:=by
 obtain ⟨c,tl,m1⟩:=F.called_set.mro;have m2:=F.called_set.made;have m3:=F.called_set.sub;refine wpAny_call (codeAny_of_tree (show wpAny _ _ (callAny (.type "set") _) _ _ _ from wpAny_pure ⟨Code.quiet_builtin _ (by decide +kernel),codeAny_builtin F.entry_type_call ?_⟩));rw [Around.under_plain (weight_type_call_type "set" [.ref l] []) rfl];have m4:=F.called_set.notType;have m5:=F.called_set.canCreate;have m6:=F.typeCall_set_1 (.ref l)
 repeat (any_goals (first | assumption | wp_step))
 refine codeAny_mono (JY (.ref l) (E:=E) (P:=fun v s1=>v = .ref s.heap.objs.size/\s1 = { s with heap:=s.heap.push (hW w) }) ⟨rfl,rfl⟩) fun r s1 hr=>?_
 cases r with
 | error e=>exact hr
 | ok fl =>
  cases fl with
  | ret v =>
   obtain ⟨rfl,rfl⟩:=hr;have g1:(s.heap.push (hW w)).get? s.heap.objs.size = some (hW w):=Heap.get?_push_size _ rfl;have tS:Shared.TypeIs { s with heap:=s.heap.push (hW w) } (.ref s.heap.objs.size) "set":=⟨_,g1,rfl⟩;have m7:=F.called_set.init.lookup;have m8:=F.called_set.init.bind (.ref s.heap.objs.size)
   repeat (any_goals (first | assumption | wp_step))
   refine codeAny_mono (codeAny_call_builtin (R:=wants (fun r s2=>r = .none/\∃ h' tk,s2 = { s with heap:=h',toks:=tk }/\SetW kd h' s.heap.objs.size (onces ks)/\∀ b o,s.heap.get? b = some o->h'.get? b = some o) E) F.called_set.init.plain F.entry_set_init (check_set_init_1 tS ?_)) fun r2 s2 Jt=>?_
   ·obtain ⟨⟨c1,d1,a1,z1⟩,e1,c2,n1,d2⟩:=hl;simp only at c2 d2;subst c2 d2;have e2:(s.heap.push (hW w)).get? l = some { cls:=.type "list",dict:=d1,data:=.seq its n1,slots:=z1 }:=Heap.get?_push_of_some _ e1;have n2:=F.sub_list_set;have n3:=F.sub_list_frozenset;have n4:(Value.type "list" == Value.type "dict") = false:=by decide
    have l1:(s.heap.push (hW w)).IsList l its:=⟨_,e2,rfl,n1,rfl⟩;unfold Builtin.«set.__init__» noKeywords Builtin.Frozenset.updateFrom;generalize hp:pyIter = PI
    wp_walk
    subst hp;refine wpAny_pyIter_list l1 (wpAny_bind (wpAny_runValue ?_));have Tb:l < s.heap.objs.size:=Heap.lt_size e1;have zz:(s.heap.push (hW w)).objs.size = s.heap.objs.size + 1:=Heap.size_push _ _;refine Fu (kd:=kd) (I:=(s.heap.push (hW w)).objs.size) (l:=l) (its:=its) (by simpa using hh) (by rw [zz];exact Nat.ne_of_lt (Nat.lt_succ_of_lt Tb)) (by rw [zz];exact Nat.ne_of_lt (Nat.lt_succ_self _)) (Nat.ne_of_gt Tb) hz hit hb ks.length 0 _ rfl (Nat.zero_le _) ⟨_,Heap.get?_push_size _ rfl,rfl,rfl⟩ (l1.push _) (Ca (Heap.get?_push_of_some _ g1)) fun h' tk kp S=>?_
    show wpAny _ _ _ _ _ _;refine wpAny_pure (show wpAny _ _ (ret Value.none) _ _ _ from wpAny_pure ⟨rfl,h',tk,rfl,S,fun b o e=>?_⟩)
    have:=Heap.lt_size e;exact kp b o (Nat.ne_of_lt this) (by rw [zz];exact Nat.ne_of_lt (Nat.lt_succ_of_lt this)) (Heap.get?_push_of_some _ (Heap.get?_push_of_some _ e))
   ·cases r2 with
    | error e=>exact Jt
    | ok Xd =>
     cases Xd with
     | ret r =>
      obtain ⟨rfl,h',tk,rfl,S,kp⟩:=Jt
      repeat (any_goals (first | assumption | wp_step))
      exact q _ _ S kp
     | _=>exact Jt.elim
  | _=>exact hr.elim
end
section
variable {E:Value->Shared->Prop}
theorem jT {α:Type}:∀ (l:List α) (i:Nat) (x:α),l[i]? = some x->l.Perm (x :: l.eraseIdx i)
 | [],i,x,h=>by simp at h
 | y :: l,0,x,h=>by simp at h;subst h;exact .refl _
 | y :: l,i + 1,x,h=>by
  have h':l[i]? = some x:=by simpa using h
  rw [List.eraseIdx_cons_succ];exact ((jT l i x h').cons y).trans (.swap x y _)
theorem xG {src:Source} {n:Nat} {Q:Nat->Shared->Prop} (hn:n ≠ 0) (q:∀ i d,i < n->Q i { s with drawn:=d }):wpAny (model prog w) A (choose src n) Q E s :=
 fun Γ p _=>⟨hn,q _ _ (Nat.mod_lt _ (Nat.pos_of_ne_zero hn))⟩
theorem pd {α:Type}:∀ (n:Nat) (xs:List α) (s:Shared) {Q:List α->Shared->Prop},xs.length = n->(∀ ys d,ys.Perm xs->Q ys { s with drawn:=d })->wpAny (model prog w) A (drawOrder n xs) Q E s
 | 0,xs,s,Q,hl,q=>by
  have e:xs = []:=List.length_eq_zero_iff.mp hl;subst e;unfold drawOrder;exact wpAny_pure (q [] s.drawn .nil)
 | n + 1,xs,s,Q,hl,q=>by
  cases xs with
  | nil=>simp at hl
  | cons x xs =>
   unfold drawOrder;refine wpAny_bind (xG (by simp) fun i d hi=>?_)
   rw [List.getElem?_eq_getElem hi];dsimp only;have pe:=jT (x :: xs) i _ (List.getElem?_eq_getElem hi);refine wpAny_bind (pd n _ _ (by rw [List.length_eraseIdx_of_lt hi,hl];rfl) fun ys d' pm=>?_)
   exact wpAny_pure (q _ d' ((pm.cons _).trans pe.symm))
theorem zd {α:Type} (nx:Nat->Nat):∀ (f k:Nat) (l:List α) (out:Array α),l.length = f->(pickOrder.go nx f k l out).toList.Perm (out.toList ++ l)
 | 0,k,l,out,h=>by
  have e:l = []:=List.length_eq_zero_iff.mp h;subst e;unfold pickOrder.go;rw [List.append_nil]
 | f + 1,k,l,out,h=>by
  unfold pickOrder.go;have hi:nx k % l.length < l.length:=Nat.mod_lt _ (by omega);rw [List.getElem?_eq_getElem hi];dsimp only;refine (zd nx f (k + 1) _ _ (by rw [List.length_eraseIdx_of_lt hi,h];rfl)).trans ?_;rw [Array.toList_push,List.append_assoc];exact List.Perm.append_left _ (jT l _ _ (List.getElem?_eq_getElem hi)).symm
theorem Au (nx:Nat->Nat) (xs:Array α):(pickOrder nx xs).toList.Perm xs.toList:=by
 unfold pickOrder;refine (zd nx _ 0 _ _ (by simp)).trans ?_;simp
end
local macro_rules | `(term| type_of% $n:ident) => return Lean.mkIdent (Lean.mkPrivateNameCore `PySem.SetOps (`PySem ++ n.getId))
local macro_rules | `(tactic| delta $n:ident) => if Lean.isPrivateName n.getId then Lean.Macro.throwUnsupported else `(tactic| delta $(Lean.mkIdent (Lean.mkPrivateNameCore `PySem.SetOps (`PySem ++ n.getId))):ident)
theorem oY:entryFor table "set.__iter__" = some Builtin.«frozenset.__iter__»:=entryFor_alias (id':="frozenset.__iter__") (by kernel_rfl) rfl (by decide +kernel) (by kernel_rfl)
theorem bG:Slot "set_iterator" "__next__" "set_iterator.__next__":=.of (owner:="set_iterator") (n:="__next__") (by rw [typeLookup_type,builtinLookup_eq_fast];kernel_rfl) (by decide +kernel) (by decide +kernel) (by decide +kernel) (by first | exact .inl (by decide +kernel) | exact .inr (by decide +kernel)) (by rw [isSubtype_type];kernel_rfl)
theorem jM:entryFor table "set_iterator.__next__" = some Builtin.«set_iterator.__next__»:=entryFor_of_tree (by kernel_rfl)
theorem kW (a:Value):argsOk "set_iterator.__next__" ⟨[a],[]⟩:=by unfold argsOk;kernel_rfl
def dr (es:SE) (t:SetTable):Bool:=(type_of% drawn) es t
def IsSI (h:Heap) (it:Addr) (first:Value) (i:Nat) (a:Addr) (n ep:Nat):Prop:=∃ o,h.get? it = some o/\o.cls = .type "set_iterator"/\o.data = .fields #[first,.int i 0,.ref a,.int n 0,.int ep 0]
section
variable {E:Value->Shared->Prop} {a it:Addr} {o:Obj} {es:SE} {ep:Nat} {t:SetTable}
theorem CN {Q : Value -> Shared -> Prop} (ho : s.heap.get? a = some o) (hx : o.ExactSet) (hd : o.data = .set es ep t) (hf : t.fits es.size = true) (hz : es.size < scanBound)
    (q:∀ first d h' PD,(∀ b u,s.heap.get? b = some u->h'.get? b = some u)->s.heap.objs.size <= PD->IsSI h' PD first 0 a es.size ep ->
     ((first = .int 0 0/\(w.params.followText "set-order" = true \/ dr es t = false)) \/ (∃ (tp:Addr) (ps:List Nat),first = .ref tp/\s.heap.objs.size <= tp/\tp ≠ PD/\h'.get? tp = some { cls:=.type "tuple",data:=.seq (ps.map fun (i:Nat)=>Value.int i 0).toArray }/\ps.Perm (List.range es.size))) ->
     Q (.ref PD) { s with heap:=h',drawn:=d }):wpAny (model prog w) A (pyIter (.ref a)) Q E s:=by
 have ty:s.TypeIs (.ref a) "set":=⟨o,ho,hx.1⟩;have hs:es.size <= sizeLine:=fits_of_scanBound hz;refine wpAny_pyIter_slot ty F.slot_set_iter (wpAny_call_entry F.slot_set_iter ty oY ?_ (F.args_set_iter_1 _));show wpAny _ _ (Builtin.Frozenset.slot0 "__iter__" { pos:=[.ref a] } >>= _) _ _ _;refine wpAny_bind (wpAny_of_eq (show Builtin.Frozenset.slot0 "__iter__" { pos:=[.ref a] } = pure a from rfl) ?_);refine wpAny_bind (show wpAny _ _ (Builtin.Frozenset.sizeOf a) _ _ _ from wpAny_bind (wpAny_setEntries_of ho hd hf (wpAny_pure ?_)));refine wpAny_bind ?_;unfold setDrawn setsByText;refine wpAny_bind (wpAny_setState_of ho hd hf (wpAny_bind (wpAny_bind (wpAny_askSetting (wpAny_pure (wpAny_pure ?_))))));dsimp only
 cases hb:(!w.params.followText "set-order" && dr es t) with
 | true =>
  rw [if_pos (show (!(model prog w).w.params.followText "set-order" && (type_of% drawn) es t) = true from hb)];refine wpAny_bind (pd _ _ _ (by rw [List.length_range]) fun ys d pm=>?_)
  refine wpAny_bind (wpAny_newTuple ?_ (by rw [List.length_map,pm.length_eq,List.length_range];exact hs));refine wpAny_bind (wpAny_setEpoch_of (o:=o) (es:=es) (t:=t) (Heap.get?_push_of_some _ ho) hd hf ?_);refine wpAny_bind (wpAny_newObj_type ?_ ?_)
  ·refine wpAny_pure ⟨_,rfl,"set_iterator",_,⟨_,Heap.get?_push_size _ rfl,rfl⟩,bG.lookup,q _ d _ _ (fun b u e=>Heap.get?_push_of_some _ (Heap.get?_push_of_some _ e)) ?_ ⟨_,Heap.get?_push_size _ rfl,rfl,rfl⟩ (.inr ⟨s.heap.objs.size,ys,rfl,Nat.le_refl _,?_,Heap.get?_push_of_some _ (Heap.get?_push_size _ rfl),pm⟩)⟩
   ·show _ <= (s.heap.push _).objs.size;rw [Heap.size_push];exact Nat.le_succ _
   ·show _ ≠ (s.heap.push _).objs.size;rw [Heap.size_push];exact Nat.ne_of_lt (Nat.lt_succ_self _)
  ·show sizeOk _
   first | trivial | exact Nat.le_refl _ | (unfold sizeOk;simp [sizeLine_eq]) | (simp [sizeOk,sizeLine_eq])
 | false =>
  rw [if_neg (show ¬ (!(model prog w).w.params.followText "set-order" && (type_of% drawn) es t) = true from fun z=>by rw [show (!(model prog w).w.params.followText "set-order" && (type_of% drawn) es t) = false from hb] at z;cases z)]
  refine wpAny_bind (wpAny_pure ?_);refine wpAny_bind (wpAny_setEpoch_of ho hd hf ?_);refine wpAny_bind (wpAny_newObj_type ?_ ?_)
  ·refine wpAny_pure ⟨_,rfl,"set_iterator",_,⟨_,Heap.get?_push_size _ rfl,rfl⟩,bG.lookup,q _ s.drawn _ _ (fun b u e=>Heap.get?_push_of_some _ e) (Nat.le_refl _) ⟨_,Heap.get?_push_size _ rfl,rfl,rfl⟩ (.inl ⟨rfl,?_⟩)⟩
   cases ht:w.params.followText "set-order" with
   | true=>exact .inl rfl
   | false=>rw [ht] at hb;exact .inr hb
  ·show sizeOk _
   first | trivial | exact Nat.le_refl _ | (unfold sizeOk;simp [sizeLine_eq]) | (simp [sizeOk,sizeLine_eq])
end
end SW
namespace SW
open PySem PySem.Spec PySem.SetTable
local macro_rules | `(term| type_of% $n:ident) => return Lean.mkIdent (Lean.mkPrivateNameCore `PySem.SetOps (`PySem ++ n.getId))
local macro_rules | `(tactic| delta $n:ident) => if Lean.isPrivateName n.getId then Lean.Macro.throwUnsupported else `(tactic| delta $(Lean.mkIdent (Lean.mkPrivateNameCore `PySem.SetOps (`PySem ++ n.getId))):ident)
def SAt (w:World) (a:Addr) (es:SE) (ep:Nat) (t:SetTable) (ord:List Value) (first:Value) (i:Nat) (h:Heap):Prop :=
 (w.params.followText "set-order" = true/\(∃ j:Nat,first = .int j 0)/\ord = (pickOrder (w.params.setOrder a ep) es).toList.map (·.2)) \/
 (w.params.followText "set-order" = false/\dr es t = false/\t.led = true/\qd t.place/\(∃ j:Nat,first = .int j 0/\below t.place j = i)/\ord = es.toList.map (·.2)) \/
 (∃ (tp:Addr) (ps:List Nat),first = .ref tp/\h.get? tp = some { cls:=.type "tuple",data:=.seq (ps.map fun (i:Nat)=>Value.int i 0).toArray }/\ord.map some = ps.map fun p=>es[p]?.map (·.2))
section
variable {prog:Program} {w:World} {A:Around} {E:Value->Shared->Prop} {s:Shared} {a it:Addr} {o:Obj} {es:SE} {ep:Nat} {t:SetTable} {ord:List Value} {first:Value} {i:Nat}
theorem jR {oi : Obj} {k : Nat} {x : Value} {vs : Array Value} {Q : Unit -> Shared -> Prop} (e1 : s.heap.get? it = some oi) (e2 : oi.cls = .type "set_iterator") (e3 : oi.data = .fields vs) (hk : k < vs.size)
    (q:∀ h' o',Heap.SameBut it s.heap h'->h'.get? it = some o'->o'.cls = .type "set_iterator"->o'.data = .fields (vs.set! k x)->Q () { s with heap:=h' }):wpAny (model prog w) A (setField (.ref it) k x) Q E s:=by
 refine wpAny_setField e1 e3 (by simpa using hk) ?_;refine q _ _ (Heap.SameBut.update _ _ _) (Heap.get?_update_self _ e1 (Obj.isFreed_of_fields (Obj.data_mapFields e3 _))) ((Obj.cls_mapFields _ _).trans e2) ((Obj.data_mapFields e3 _).trans ?_);simp
theorem CM {oi : Obj} {j i n ep j' : Nat} {x : Value} {Q : Fin -> Shared -> Prop} (e1 : s.heap.get? it = some oi) (e2 : oi.cls = .type "set_iterator") (e3 : oi.data = .fields #[.int j 0, .int i 0, .ref a, .int n 0, .int ep 0])
    (q:∀ h',Heap.SameBut it s.heap h'->IsSI h' it (.int j' 0) (i + 1) a n ep->Q (.done (.ret x)) { s with heap:=h' }):wpAny (model prog w) A (do setField (.ref it) 0 (rawInt j');setField (.ref it) 1 (rawInt (i + 1));ret x) Q E s:=by
 refine wpAny_bind (jR e1 e2 e3 (by simp) fun h1 o1 b1 a1 a2 a3=>?_)
 refine wpAny_bind (jR (s:={ s with heap:=h1 }) a1 a2 a3 (by simp) fun h2 o2 b2 c1 c2 c3=>?_)
 exact wpAny_pure (q h2 (b1.trans b2) ⟨o2,c1,c2,c3.trans rfl⟩)
theorem CO {Q : Option Value -> Shared -> Prop} {v : Value} (ho : s.heap.get? a = some o) (hd : o.data = .set es ep t) (hf : t.fits es.size = true) (st : IsSI s.heap it first i a es.size ep) (at_ : SAt w a es ep t ord first i s.heap) (hv : ord[i]? = some v) (hn : ∀ tp, first = .ref tp -> tp ≠ it) (RP : a ≠ it)
    (q:∀ h' oV,Heap.SameBut it s.heap h'->IsSI h' it oV (i + 1) a es.size ep->SAt w a es ep t ord oV (i + 1) h'->(∀ tp,oV = .ref tp->first = .ref tp)->Q (some v) { s with heap:=h' }):wpAny (model prog w) A (pyNext (.ref it)) Q E s:=by
 obtain ⟨oi,e1,e2,e3⟩:=id st;have ty:s.TypeIs (.ref it) "set_iterator":=⟨oi,e1,e2⟩;unfold pyNext;refine wpAny_bind (wpAny_attempt (wpAny_callSpecial?_slot ty bG (wpAny_call_entry bG ty jM ?_ (kW _))));unfold Builtin.«set_iterator.__next__»;refine wpAny_bind (wpAny_of_eq (show slotArgs "__next__" 0 { pos:=[.ref it] } = pure (.ref it,[]) from rfl) ?_);dsimp only;refine wpAny_bind (wpAny_fieldsOf e1 e3 ?_);rw [show (#[first,Value.int (i:Int) 0,.ref a,.int (es.size:Int) 0,.int (ep:Int) 0]:Array Value).toList = [first,Value.int (i:Int) 0,.ref a,.int (es.size:Int) 0,.int (ep:Int) 0] from rfl];dsimp only;refine wpAny_bind (wpAny_setEntries_of ho hd hf ?_);rw [if_neg (by simp)]
 rcases at_ with ⟨ft,⟨j,rfl⟩,eo⟩ | ⟨ft,fd,fl,fr,⟨j,rfl,ej⟩,eo⟩ | ⟨tp,ps,rfl,et,eo⟩
 ·dsimp only;refine wpAny_bind ?_;unfold setNext;refine wpAny_bind (wpAny_setState_of ho hd hf ?_);dsimp only;unfold setsByText;refine wpAny_bind (wpAny_bind (wpAny_askSetting (wpAny_pure ?_)));rw [if_pos (show (model prog w).w.params.followText "set-order" = true from ft),if_neg (by simp)];refine wpAny_bind ?_;unfold setWalk setsByText;refine wpAny_bind (wpAny_setState_of ho hd hf ?_);dsimp only;refine wpAny_bind (wpAny_bind (wpAny_askSetting (wpAny_pure ?_)));rw [if_pos (show (model prog w).w.params.followText "set-order" = true from ft)];refine wpAny_bind (wpAny_askSetting (wpAny_pure ?_));rw [eo,List.getElem?_map] at hv;obtain ⟨e,he,rfl⟩:=Option.map_eq_some_iff.mp hv;rw [Array.getElem?_toList] at he;simp only [Int.toNat_natCast];rw [show (pickOrder ((⟨(model prog w).prog,(model prog w).w.params⟩:Setting).params.setOrder a ep) es)[i]? = some e from he];refine wpAny_pure ?_;exact CM e1 e2 e3 fun h' sb aO=>⟨_,rfl,wpAny_pure (q h' _ sb aO (.inl ⟨ft,⟨_,rfl⟩,eo⟩) fun tp z=>by cases z)⟩
 ·dsimp only;refine wpAny_bind ?_;unfold setNext;refine wpAny_bind (wpAny_setState_of ho hd hf ?_);dsimp only;unfold setsByText;refine wpAny_bind (wpAny_bind (wpAny_askSetting (wpAny_pure ?_)));rw [if_neg (show ¬ (model prog w).w.params.followText "set-order" = true from fun z=>by rw [show (model prog w).w.params.followText "set-order" = false from ft] at z;cases z),if_neg (show ¬ (type_of% drawn) es t = true from fun z=>by rw [show (type_of% drawn) es t = false from fd] at z;cases z)]
  delta mustBeLedForItsPlaces
  rw [if_neg (by rw [fl];simp)];refine wpAny_bind (wpAny_pure ?_);rw [Int.toNat_natCast,ej];rw [eo,List.getElem?_map] at hv;obtain ⟨e,he,rfl⟩:=Option.map_eq_some_iff.mp hv;rw [Array.getElem?_toList] at he;obtain ⟨hi,TH⟩:=Array.getElem?_eq_some_iff.mp he;have hp:i < t.place.size:=by
   simp only [SetTable.fits,Bool.and_eq_true,beq_iff_eq] at hf;rw [hf.1];exact hi
  rw [he,Array.getElem?_eq_getElem hp];refine wpAny_pure ?_;exact CM e1 e2 e3 fun h' sb aO=>⟨_,rfl,wpAny_pure (q h' _ sb aO (.inr (.inl ⟨ft,fd,fl,fr,⟨_,rfl,yH fr hp⟩,eo⟩)) fun tp z=>by cases z)⟩
 ·dsimp only;refine wpAny_bind (wpAny_seqItems et rfl ?_);dsimp only;have h1:(ord.map some)[i]? = some (some v):=by rw [List.getElem?_map,hv];rfl
  rw [eo,List.getElem?_map] at h1;obtain ⟨p,hp,h2⟩:=Option.map_eq_some_iff.mp h1;obtain ⟨e,he,rfl⟩:=Option.map_eq_some_iff.mp h2;have h3:(ps.map fun (i:Nat)=>Value.int i 0).toArray[i]? = some (.int p 0):=by
   rw [List.getElem?_toArray,List.getElem?_map,hp]
   rfl
  rw [Int.toNat_natCast,h3];dsimp only;refine wpAny_bind ?_;unfold setNextDrawn;refine wpAny_bind (wpAny_setState_of ho hd hf ?_);dsimp only;rw [if_neg (by simp),Int.toNat_natCast,he];refine wpAny_pure ?_;refine wpAny_bind (jR e1 e2 e3 (by simp) fun h1 o1 b1 a1 a2 a3=>?_)
  refine wpAny_pure ⟨_,rfl,wpAny_pure (q h1 (.ref tp) b1 ⟨o1,a1,a2,a3.trans rfl⟩ (.inr (.inr ⟨tp,ps,rfl,(b1.2 tp (hn tp rfl)).trans et,eo⟩)) fun tp z=>z)⟩
end
end SW
namespace SW
open PySem PySem.Spec PySem.SetTable
local macro_rules | `(term| type_of% $n:ident) => return Lean.mkIdent (Lean.mkPrivateNameCore `PySem.SetOps (`PySem ++ n.getId))
local macro_rules | `(tactic| delta $n:ident) => if Lean.isPrivateName n.getId then Lean.Macro.throwUnsupported else `(tactic| delta $(Lean.mkIdent (Lean.mkPrivateNameCore `PySem.SetOps (`PySem ++ n.getId))):ident)
section
variable {prog:Program} {w:World} {A:Around} {E:Value->Shared->Prop} {s:Shared} {a it:Addr} {o:Obj} {es:SE} {ep:Nat} {t:SetTable} {ord:List Value} {first:Value} {i:Nat}
theorem sS {Q : Option Value -> Shared -> Prop} {F : Fin -> Shared -> Prop} (hh : A.handled = none) (q : ∀ h', (∀ b u, s.heap.get? b = some u -> h'.get? b = some u) -> Q none { s with heap := h' }) :
    wpAny (model prog w) A.in1 (do let e <- newExc (.type "StopIteration") [];raiseNew e) F (fun e s'=>wpAny (model prog w) A (do let b <- isInstance e (.type "StopIteration");if b = true then pure none else throw e) Q E s') s:=by
 refine wpAny_bind (wpAny_bind (wpAny_newTuple ?_ (Nat.zero_le _)));refine wpAny_bind (wpAny_pure (wpAny_newObj_type ?_ (sizeOk_excFields _ _ _ _ _ _ _ _)));unfold raiseNew;refine wpAny_bind (wpAny_handled ?_);rw [show A.in1.handled = none from hh];refine wpAny_throw (wpAny_bind (wpAny_isInstance (T:="StopIteration") ⟨_,Heap.get?_push_size _ rfl,rfl⟩ isSubtype_stop ?_));rw [if_pos rfl];exact wpAny_pure (q _ fun b u e=>Heap.get?_push_of_some _ (Heap.get?_push_of_some _ e))
theorem FG {Q : Option Value -> Shared -> Prop} (hh : A.handled = none) (ho : s.heap.get? a = some o) (hd : o.data = .set es ep t) (hf : t.fits es.size = true) (st : IsSI s.heap it first i a es.size ep) (at_ : SAt w a es ep t ord first i s.heap) (hv : ord[i]? = none)
    (q:∀ h',Heap.ExtBut it s.heap h'->Q none { s with heap:=h' }):wpAny (model prog w) A (pyNext (.ref it)) Q E s:=by
 obtain ⟨oi,e1,e2,e3⟩:=id st;have ty:s.TypeIs (.ref it) "set_iterator":=⟨oi,e1,e2⟩;unfold pyNext;refine wpAny_bind (wpAny_attempt (wpAny_callSpecial?_slot ty bG (wpAny_call_entry bG ty jM ?_ (kW _))));unfold Builtin.«set_iterator.__next__»;refine wpAny_bind (wpAny_of_eq (show slotArgs "__next__" 0 { pos:=[.ref it] } = pure (.ref it,[]) from rfl) ?_);dsimp only;refine wpAny_bind (wpAny_fieldsOf e1 e3 ?_);rw [show (#[first,Value.int (i:Int) 0,.ref a,.int (es.size:Int) 0,.int (ep:Int) 0]:Array Value).toList = [first,Value.int (i:Int) 0,.ref a,.int (es.size:Int) 0,.int (ep:Int) 0] from rfl];dsimp only;refine wpAny_bind (wpAny_setEntries_of ho hd hf ?_);rw [if_neg (by simp)]
 rcases at_ with ⟨ft,⟨j,rfl⟩,eo⟩ | ⟨ft,fd,fl,fr,⟨j,rfl,ej⟩,eo⟩ | ⟨tp,ps,rfl,et,eo⟩
 ·dsimp only;refine wpAny_bind ?_;unfold setNext;refine wpAny_bind (wpAny_setState_of ho hd hf ?_);dsimp only;unfold setsByText;refine wpAny_bind (wpAny_bind (wpAny_askSetting (wpAny_pure ?_)));rw [if_pos (show (model prog w).w.params.followText "set-order" = true from ft),if_neg (by simp)];refine wpAny_bind ?_;unfold setWalk setsByText;refine wpAny_bind (wpAny_setState_of ho hd hf ?_);dsimp only;refine wpAny_bind (wpAny_bind (wpAny_askSetting (wpAny_pure ?_)));rw [if_pos (show (model prog w).w.params.followText "set-order" = true from ft)];refine wpAny_bind (wpAny_askSetting (wpAny_pure ?_));rw [eo,List.getElem?_map,Option.map_eq_none_iff,Array.getElem?_toList] at hv;simp only [Int.toNat_natCast];rw [show (pickOrder ((⟨(model prog w).prog,(model prog w).w.params⟩:Setting).params.setOrder a ep) es)[i]? = none from hv];refine wpAny_pure ?_;refine wpAny_bind (jR e1 e2 e3 (by simp) fun h1 o1 b1 a1 a2 a3=>?_)
  exact sS (s:={ s with heap:=h1 }) hh fun h' k=>q h' fun b u n e=>k b u ((b1.2 b n).trans e)
 ·dsimp only;refine wpAny_bind ?_;unfold setNext;refine wpAny_bind (wpAny_setState_of ho hd hf ?_);dsimp only;unfold setsByText;refine wpAny_bind (wpAny_bind (wpAny_askSetting (wpAny_pure ?_)));rw [if_neg (show ¬ (model prog w).w.params.followText "set-order" = true from fun z=>by rw [show (model prog w).w.params.followText "set-order" = false from ft] at z;cases z),if_neg (show ¬ (type_of% drawn) es t = true from fun z=>by rw [show (type_of% drawn) es t = false from fd] at z;cases z)]
  delta mustBeLedForItsPlaces
  rw [if_neg (by rw [fl];simp)];refine wpAny_bind (wpAny_pure ?_);rw [Int.toNat_natCast,ej];rw [eo,List.getElem?_map,Option.map_eq_none_iff,Array.getElem?_toList] at hv;rw [hv];refine wpAny_pure ?_;refine wpAny_bind (jR e1 e2 e3 (by simp) fun h1 o1 b1 a1 a2 a3=>?_)
  exact sS (s:={ s with heap:=h1 }) hh fun h' k=>q h' fun b u n e=>k b u ((b1.2 b n).trans e)
 ·dsimp only;refine wpAny_bind (wpAny_seqItems et rfl ?_);dsimp only;have h1:(ord.map some)[i]? = none:=by rw [List.getElem?_map,hv];rfl
  rw [eo,List.getElem?_map,Option.map_eq_none_iff] at h1;have h3:(ps.map fun (i:Nat)=>Value.int i 0).toArray[i]? = none:=by
   rw [List.getElem?_toArray,List.getElem?_map,h1]
   rfl
  rw [Int.toNat_natCast,h3];dsimp only;refine wpAny_bind (jR e1 e2 e3 (by simp) fun h1 o1 b1 a1 a2 a3=>?_)
  refine wpAny_bind (jR (s:={ s with heap:=h1 }) a1 a2 a3 (by simp) fun h2 o2 b2 c1 c2 c3=>?_)
  exact sS (s:={ s with heap:=h2 }) hh fun h' k=>q h' fun b u n e=>k b u ((b2.2 b n).trans ((b1.2 b n).trans e))
end
end SW
namespace SW
open PySem PySem.Spec PySem.SetTable
local macro_rules | `(term| type_of% $n:ident) => return Lean.mkIdent (Lean.mkPrivateNameCore `PySem.Builtin.List.Common (`PySem.Builtin.List ++ n.getId))
theorem kl:Slot "set_iterator" "__iter__" "set_iterator.__iter__":=.of (owner:="set_iterator") (n:="__iter__") (by rw [typeLookup_type,builtinLookup_eq_fast];kernel_rfl) (by decide +kernel) (by decide +kernel) (by decide +kernel) (by first | exact .inl (by decide +kernel) | exact .inr (by decide +kernel)) (by rw [isSubtype_type];kernel_rfl)
theorem qI:entryFor table "set_iterator.__iter__" = some Builtin.«dict_keyiterator.__iter__»:=entryFor_alias (id':="dict_keyiterator.__iter__") (by kernel_rfl) rfl (by decide +kernel) (by kernel_rfl)
theorem uD (a:Value):argsOk "set_iterator.__iter__" ⟨[a],[]⟩:=by unfold argsOk;kernel_rfl
section
variable {prog:Program} {w:World} {A:Around} {E:Value->Shared->Prop} {s:Shared} {a it:Addr} {o:Obj} {es:SE} {ep:Nat} {t:SetTable} {ord:List Value}
def UB (w:World) (a it:Addr) (o:Obj) (es:SE) (ep:Nat) (t:SetTable) (ord:List Value) (fp:List Addr) (i:Nat) (s:Shared):Prop :=
 ∃ first,s.heap.get? a = some o/\IsSI s.heap it first i a es.size ep/\SAt w a es ep t ord first i s.heap/\∀ tp,first = .ref tp->tp ≠ it/\tp ∈ fp
theorem IsSI.at {h h':Heap} {first:Value} {i n:Nat} (x:IsSI h it first i a n ep) (e:∀ u,h.get? it = some u->h'.get? it = some u):IsSI h' it first i a n ep:=by
 obtain ⟨u,h1,r⟩:=x;exact ⟨u,e u h1,r⟩
theorem SAt.at {h h':Heap} {first:Value} {i:Nat} (x:SAt w a es ep t ord first i h) (e:∀ tp u,first = .ref tp->h.get? tp = some u->h'.get? tp = some u):SAt w a es ep t ord first i h':=by
 rcases x with x | x | ⟨tp,ps,e1,e2,e3⟩
 ·exact .inl x
 ·exact .inr (.inl x)
 ·exact .inr (.inr ⟨tp,ps,e1,e tp _ e1 e2,e3⟩)
theorem Ag {fp:List Addr} (hh:A.handled = none) (hd:o.data = .set es ep t) (hf:t.fits es.size = true) (RP:a ≠ it) (h1:it ∈ fp) (h2:a ∈ fp):WalksS prog w A it fp [it] Eq ord.length (fun i v=>ord[i]? = some v) (UB w a it o es ep t ord fp) where
 sub:=fun b hb=>by rw [List.mem_singleton.mp hb];exact h1
 grefl:=fun _=>rfl
 gtrans:=fun _ _ _ x y=>x.trans y
 frame:=fun i s h' tk st _ k=>by
  obtain ⟨first,g1,g2,g3,g4⟩:=st;exact ⟨first,k a h2 o g1,g2.at (k it h1),g3.at (fun tp u e z=>k tp (g4 tp e).2 u z),g4⟩
 item:=fun i s Q E hi st q=>by
  obtain ⟨first,g1,g2,g3,g4⟩:=st;refine CO (v:=ord[i]) g1 hd hf g2 g3 (List.getElem?_eq_getElem hi) (fun tp e=>(g4 tp e).1) RP fun h' oV sb aO at' n'=>?_
  refine q _ _ (List.getElem?_eq_getElem hi) ⟨oV,(sb.2 a RP).trans g1,aO,at',fun tp e=>g4 tp (n' tp e)⟩ ⟨fun b u hb e=>(sb.2 b (fun z=>hb (by rw [z];exact List.mem_singleton.mpr rfl))).trans e,rfl,rfl,rfl,Nat.le_refl _⟩
 done:=fun s Q E st q=>by
  obtain ⟨first,g1,g2,g3,g4⟩:=st;exact FG hh g1 hd hf g2 g3 (by simp) fun h' eb=>q _ ⟨fun b u hb e=>eb b u (fun z=>hb (by rw [z];exact List.mem_singleton.mpr rfl)) e,rfl,rfl,rfl,Nat.le_refl _⟩
 self:=fun i s Q E st q=>by
  obtain ⟨first,g1,⟨u,e1,e2,e3⟩,g3,g4⟩:=st;have ty:s.TypeIs (.ref it) "set_iterator":=⟨u,e1,e2⟩;refine wpAny_pyIter_slot ty kl (wpAny_call_entry kl ty qI ?_ (uD _));exact wpAny_pure ⟨_,rfl,"set_iterator",_,ty,bG.lookup,q⟩
end
end SW
namespace SW
open PySem PySem.Spec PySem.SetTable
local macro_rules | `(tactic| delta $n:ident) => if Lean.isPrivateName n.getId then Lean.Macro.throwUnsupported else `(tactic| delta $(Lean.mkIdent (Lean.mkPrivateNameCore `PySem.Builtin.List.Common (`PySem.Builtin.List ++ n.getId))):ident)
section
variable {prog:Program} {w:World} {κ:Type} [DecidableEq κ] {kd:KeyKind prog w κ} {A:Around} {E:Value->Shared->Prop} {s:Shared} {a:Addr} {ks:List κ}
theorem vo {es:SE}:∀ (ps:List Nat),(∀ p ∈ ps,p < es.size)->∃ L:List (Int × Value),ps.map (fun p=>es[p]?) = L.map some
 | [],_=>⟨[],rfl⟩
 | p :: ps,h=>by
  obtain ⟨L,e⟩:=vo ps fun x hx=>h x (List.mem_cons_of_mem _ hx)
  exact ⟨es[p]'(h p List.mem_cons_self) :: L,by rw [List.map_cons,List.map_cons,e,Array.getElem?_eq_getElem (h p List.mem_cons_self)]⟩
theorem Fv {Q : Value -> Shared -> Prop} (S : SetW kd s.heap a ks)
    (q:∀ o es ep t ord tp it d h' (M:List (κ × Value)),h'.get? a = some o->o.data = .set es ep t->t.fits es.size = true->es.size < scanBound->M.map (·.2) = ord->(M.map (·.1)).Perm ks->(∀ p ∈ M,kd.is p.1 p.2 = true)->ord.length < scanBound ->
     (∀ b u,s.heap.get? b = some u->h'.get? b = some u)->s.heap.objs.size <= it->s.heap.objs.size <= tp->tp < h'.objs.size->it < h'.objs.size->a ≠ it->UB w a it o es ep t ord [it,a,tp] 0 { s with heap:=h',drawn:=d }->Q (.ref it) { s with heap:=h',drawn:=d }):wpAny (model prog w) A (pyIter (.ref a)) Q E s:=by
 obtain ⟨o,es,ep,t,L,ho,hx,hd,l1,l2,l3,hb,hf,hr,hl⟩:=S;have fin:∀ L0:List (Int × Value),L0.Perm es.toList->∃ M:List (κ × Value),M.map (·.2) = L0.map (·.2)/\(M.map (·.1)).Perm ks/\∀ p ∈ M,kd.is p.1 p.2 = true:=fun L0 pm=>by
  obtain ⟨L',p1,p2⟩:=L2.perm_lift (pm.trans (.of_eq l1.symm)) L rfl;refine ⟨L'.map fun p=>(p.1,p.2.2),?_,?_,fun p hp=>?_⟩
  ·rw [p2,List.map_map,List.map_map]
   rfl
  ·rw [List.map_map];exact (p1.map _).trans l2
  ·obtain ⟨p0,h0,rfl⟩:=List.mem_map.mp hp;exact (l3 p0 (p1.mem_iff.mp h0)).1
 refine CN ho hx hd hf hb fun first d h' it kp hit st md=>?_
 have lt:it < h'.objs.size:=by obtain ⟨_,e,_⟩:=st;exact Heap.lt_size e
 have ne:a ≠ it:=Nat.ne_of_lt (Nat.lt_of_lt_of_le (Heap.lt_size ho) hit);have go:∀ (L0:List (Int × Value)) (tp:Addr),L0.Perm es.toList->s.heap.objs.size <= tp->tp < h'.objs.size->SAt w a es ep t (L0.map (·.2)) first 0 h'->(∀ z,first = .ref z->z ≠ it/\z = tp)->Q (.ref it) { s with heap:=h',drawn:=d }:=fun L0 tp pm t1 t2 sa nt=>by
  obtain ⟨M,m1,m2,m3⟩:=fin L0 pm;refine q o es ep t _ tp it d h' M (kp a o ho) hd hf hb m1 m2 m3 ?_ kp hit t1 t2 lt ne ⟨first,kp a o ho,st,sa,fun z e=>⟨(nt z e).1,by rw [(nt z e).2];simp⟩⟩
  rw [List.length_map,pm.length_eq,Array.length_toList];exact hb
 rcases md with ⟨rfl,m⟩ | ⟨tp,ps,rfl,t1,t2,t3,pm⟩
 ·cases ft:w.params.followText "set-order" with
  | true=>exact go _ it (Au (w.params.setOrder a ep) es) hit lt (.inl ⟨ft,⟨0,rfl⟩,rfl⟩) fun z e=>by cases e
  | false =>
   have m':dr es t = false:=m.elim (fun z=>by rw [ft] at z;cases z) id
   exact go _ it (.refl _) hit lt (.inr (.inl ⟨ft,m',by rw [hl];unfold rK;rw [ft];rfl,hr,⟨0,rfl,yG hr⟩,rfl⟩)) fun z e=>by cases e
 ·obtain ⟨L0,e0⟩:=vo (es:=es) ps fun p hp=>List.mem_range.mp (pm.mem_iff.mp hp)
  have pL:L0.Perm es.toList:=by
   rw [<- Er e0,<- range_items es];exact pm.filterMap _
  refine go L0 tp pL t1 (Heap.lt_size t3) (.inr (.inr ⟨tp,ps,rfl,t3,?_⟩)) fun z e=>by cases e;exact ⟨t2,rfl⟩
  have:=congrArg (List.map (Option.map fun x:Int × Value=>x.2)) e0
  rw [List.map_map,List.map_map] at this;rw [List.map_map];exact this.symm
end
end SW
namespace SW
open PySem PySem.Spec PySem.SetTable
local macro_rules | `(tactic| delta $n:ident) => if Lean.isPrivateName n.getId then Lean.Macro.throwUnsupported else `(tactic| delta $(Lean.mkIdent (Lean.mkPrivateNameCore `PySem.Builtin.List.Common (`PySem.Builtin.List ++ n.getId))):ident)
local macro_rules | `(term| type_of% $n:ident) => return Lean.mkIdent (Lean.mkPrivateNameCore `PySem.Builtin.List.Common (`PySem.Builtin.List ++ n.getId))
section
variable {prog:Program} {w:World} {κ:Type} [DecidableEq κ] {kd:KeyKind prog w κ} {A:Around} {E:Value->Shared->Prop} {s:Shared} {a:Addr} {ks:List κ}
theorem collect_set {Q : List Value -> Shared -> Prop} (hh : A.handled = none) (S : SetW kd s.heap a ks) (q : ∀ h' d tk (M : List (κ × Value)), (M.map (·.1)).Perm ks -> (∀ p ∈ M, kd.is p.1 p.2 = true) -> (∀ b u, s.heap.get? b = some u -> h'.get? b = some u) -> Q (M.map (·.2)) { s with heap := h', drawn := d, toks := tk }) :
    wpAny (model prog w) A (collect (.ref a)) Q E s:=by
 have la:a < s.heap.objs.size:=by obtain ⟨_,_,_,_,_,e,_⟩:=S;exact Heap.lt_size e
 have ty:∀ s1:Shared,SetW kd s1.heap a ks->s1.TypeIs (.ref a) "set":=fun s1 z=>by obtain ⟨o,_,_,_,_,e,hx,_⟩:=z;exact ⟨o,e,hx.1⟩
 unfold collect;refine wpAny_bind (wpAny_runValue (codeAny_builtin F.entry_proto_collect (?_:_)));rw [(Around.under_plainId F.plain_proto_collect _ :)];show wpAny (model prog w) A.in1 (newList [] >>= fun (x:Value)=>again (.builtin "list.__iadd__" ⟨[x,.ref a],[]⟩)) _ _ s
 refine wpAny_bind (wpAny_newObj_type (?_:_));refine wpAny_pure (⟨plainId_quiet F.plain_list_iadd _,codeAny_builtin F.entry_list_iadd (?_:_)⟩:_/\_);rw [(Around.under_plainId F.plain_list_iadd _ :)];generalize RU:s.heap.push { cls:=.type "list",data:=.seq ([]:List Value).toArray } = h0;have g0:h0.get? s.heap.objs.size = some { cls:=.type "list",data:=.seq #[] }:=by rw [<- RU];exact Heap.get?_push_size _ rfl
 have k0:∀ b u,s.heap.get? b = some u->h0.get? b = some u:=fun b u e=>by rw [<- RU];exact Heap.get?_push_of_some _ e
 have S0:SetW kd h0 a ks:=S.kept fun o e=>k0 a o e
 show wpAny (model prog w) A.in1 (Builtin.List.listExtendWith (.ref s.heap.objs.size) (.ref a) (.ref s.heap.objs.size)) _ _ _;unfold Builtin.List.listExtendWith;refine wpAny_bind (wpAny_typeOf (ty { s with heap:=h0 } S0) ?_);have nl:Builtin.List.listSameRef (.ref s.heap.objs.size) (.ref a) = false:=by simp [Builtin.List.listSameRef,Nat.ne_of_gt la]
 rw [if_neg (by rw [nl];decide)];refine wpAny_bind (Fv (s:={ s with heap:=h0 }) S0 fun o es ep t ord tp it d h1 M b1 b2 b3 b4 m1 m2 m3 m4 k1 i1 t1 t2 i2 ne st=>?_)
 refine wpAny_bind (wpAny_holding ?_);have S1:SetW kd h1 a ks:=S0.kept fun o e=>k1 a o e
 have M':=ty { s with heap:=h1,drawn:=d } S1;unfold Builtin.List.listLengthHint;refine wpAny_bind (wpAny_specialOf M' F.slot_set_len.lookup ?_)
 extract_lets +onlyGivenNames -underBinder -merge -useContext J
 clear_value (hJ:J = _)
 dsimp (zeta:=false) only;rw [show splitId "set.__len__" = some ("set","__len__") from by decide +kernel];dsimp (zeta:=false) only;refine wpAny_bind (wpAny_isInstance (b:=true) M' sub_set_self ?_);rw [if_neg (by decide)];rw [hJ];dsimp (zeta:=false) (zetaUnused:=false) only
 extract_lets +onlyGivenNames -underBinder -merge -useContext J2
 clear_value J2
 rw [if_pos (show (type_of% silentSize) (some (.builtin "set.__len__")) = true from by decide +kernel)];refine wpAny_bind (wpAny_typeOf M' ?_);dsimp only;refine wpAny_pure ?_;rw [if_pos (show (false || (type_of% listResizesAlways).any fun x=>Value.type "set" == Value.type x) = true from by decide +kernel)];refine wpAny_bind (wpAny_rule ?_);refine wpAny_bind ?_;unfold Builtin.List.listTouch;have u1:IsL h1 s.heap.objs.size #[] 0:=k1 _ _ g0;have u2:=PySem.IsL.update u1 (fun x=>x.push .none);have u3:=PySem.IsL.update u2 (fun x=>x.pop);rw [show ((#[]:Array Value).push .none).pop = #[] from rfl] at u3;refine wpAny_bind (PyProof.Rows.listUpdate_at u1 rfl ?_ (by simp) (by simp [sizeLine_eq]));refine PyProof.Rows.listUpdate_at u2 rfl ?_ (by simp [sizeLine_eq]) (by simp [sizeLine_eq]);generalize T2:(h1.update s.heap.objs.size (Obj.mapSeq fun x=>x.push .none)).update s.heap.objs.size (Obj.mapSeq fun x=>x.pop) = h3;rw [T2] at u3;have k3:∀ b u,b ≠ s.heap.objs.size->h1.get? b = some u->h3.get? b = some u:=fun b u n e=>by
  rw [<- T2];exact (Heap.get?_update_other _ _ (Ne.symm n)).trans ((Heap.get?_update_other _ _ (Ne.symm n)).trans e)
 have z0:h0.objs.size = s.heap.objs.size + 1:=by rw [<- RU];exact Heap.size_push _ _
 have Tg:s.heap.objs.size + 1 <= it:=by rw [<- z0];exact i1
 have Vg:s.heap.objs.size + 1 <= tp:=by rw [<- z0];exact t1
 have nf:s.heap.objs.size ∉ [it,a,tp]:=by
  simp only [List.mem_cons,List.not_mem_nil,or_false,not_or];exact ⟨Nat.ne_of_lt Tg,Nat.ne_of_gt la,Nat.ne_of_lt Vg⟩
 have W:=Ag (prog:=prog) (w:=w) (A:=A.in1) (o:=o) (es:=es) (ep:=ep) (t:=t) (ord:=ord) (fp:=[it,a,tp]) hh b2 b3 ne (by simp) (by simp);have Aa:=W.frame 0 _ h3 s.toks st (Nat.le_refl _) fun b hb u e=>k3 b u (fun z=>nf (by rw [<- z];exact hb)) e
 refine wpAny_pure ⟨plainId_quiet F.plain_extend_loop _,codeAny_extend_loopS W (fits_of_scanBound m4) _ nf _ ord.length 0 _ #[] _ rfl (Nat.zero_le _) Aa u3 (ItemsOf.nil _) fun s' acc c' hm W4 kL=>?_⟩;show wpAny _ A (load s.heap.objs.size >>= _) _ _ s';refine wpAny_bind (wpAny_load W4 (wpAny_pure ?_));have ea:acc.toList = M.map (·.2):=by
  rw [m1];apply List.ext_getElem
  ·rw [Array.length_toList,kL.1]
  ·intro j x1 x2;rw [Array.length_toList] at x1;have:ord[j]? = some acc[j]:=kL.2 j acc[j] (Array.getElem?_eq_getElem x1);rw [List.getElem?_eq_getElem x2] at this;rw [Array.getElem_toList];exact (Option.some.inj this).symm
 obtain ⟨h',g',d',Ve,QC⟩:=s';have eg:s.gens = g':=hm.gens;have ed:d' = d:=hm.drawn;have eo:QC = s.os:=hm.os;subst eg ed eo;rw [ea];refine q h' _ Ve M m2 m3 fun b u e=>?_
 have lb:=Heap.lt_size e;refine hm.heap b u ?_ (k3 b u (Nat.ne_of_lt lb) (k1 b u (k0 b u e)));simp only [List.mem_cons,List.not_mem_nil,or_false,not_or];exact ⟨Nat.ne_of_lt lb,Nat.ne_of_lt (Nat.lt_of_lt_of_le (Nat.lt_succ_of_lt lb) Tg)⟩
end
end SW
namespace L2
open PySem PySem.Spec PyProof.Rows
variable {p:Addr}
section
variable {X:Cx} {K:W.Frag} {σ:St} {H:Hp} {Q:VK} {pins:List (Addr × Obj)} {s:Shared}
theorem Inv.keptD {h':Heap} {d':Drawn} {t':Nat} (I:Inv X pins σ H s) (k:∀ b u,s.heap.get? b = some u->h'.get? b = some u):Inv X pins σ H { s with heap:=h',drawn:=d',toks:=t' }:=by
 refine I.step (g':=s.gens) (d':=d') (ch:=[]) (fun _ z=>nomatch z) (fun b o _ _ _ e _=>k b o e) (fun b o _ _ _ e _=>⟨o.slots,k b o e⟩) (fun b o _ e q=>q) (fun b o _ e=>⟨o,k b o e⟩) (fun b xs e=>e) (fun b o u e=>e) (fun b ps e=>⟨#[],by rw [e];simp⟩) (fun m hm=>?_) (fun b u e=>(I.hok.kept k) b u e) I.bare
 obtain ⟨o,es,ep,ho,r⟩:=hm;exact ⟨o,es,ep,k _ o ho,r⟩
abbrev E6 (X:Cx) (a:Addr) (ks:List Int):Heap->Prop:=fun h=>SW.SetW (intKind X.prog X.w) h a ks
def I0 (X:Cx):List V->Hp->VK->Prop:=fun xs H Q=>∃ (p:Addr) (ns:List Int),xs = [.ref p]/\SqL X.K H p (ns.map V.int)/\ns.length < 4000/\∀ l H1,H l = none->Same H H1->H1 l = some (.ext (E6 X l (SW.onces ns)))->Q (.ref l) H1
theorem Mp (hc:X.calm = true:=by rfl):bq X (.type "set") (I0 X):=by
 intro pins s σ H xs us Q I r h;obtain ⟨p,ns,rfl,hp,hl,q⟩:=h;obtain ⟨u,rfl,ru⟩:=vals1 r
 cases (show u = Value.ref p from ru)
 obtain ⟨its,r',pl,_⟩:=I.list hp;have kJ:its.length = ns.length:=by rw [r'.len,List.length_map]
 refine SW.sw_set (kd:=intKind X.prog X.w) (its:=its.toArray) (ks:=ns) (I.ok.hd hc) pl.isList (by rw [List.size_toArray,kJ]) (fun i v hv=>?_) (by unfold scanBound;omega) fun h' tk S kp=>?_
 ·rw [List.getElem?_toArray] at hv;have hi:i < ns.length:=by rw [<- kJ];exact (List.getElem?_eq_some_iff.mp hv).1
  obtain ⟨u,hu,ru⟩:=r'.get (show (ns.map V.int)[i]? = some (V.int ns[i]) by rw [List.getElem?_map,List.getElem?_eq_getElem hi];rfl);rw [hv] at hu
  cases hu
  obtain ⟨t,rfl⟩:=ru;exact ⟨ns[i],List.getElem?_eq_getElem hi,intKind_is _ _ _ _,rfl⟩
 ·have ho:∃ o,h'.get? s.heap.objs.size = some o:=by obtain ⟨o,_,_,_,_,e,_⟩:=S;exact ⟨o,e⟩
  refine ⟨.ref s.heap.objs.size,_,I.laid (o:=.ext (E6 X s.heap.objs.size (SW.onces ns))) (t':=tk) kp (Nat.le_refl _) ⟨S,ho,fun h1 h2 z k=>z.kept k⟩,rfl,q _ _ I.fresh (aE I.fresh) ak⟩
theorem ints_of {prog:Program} {w:World}:∀ (M:List (Int × Value)),(∀ p ∈ M,(intKind prog w).is p.1 p.2 = true)->IntsAre (M.map (·.2)) (M.map (·.1))
 | [],_=>.nil
 | (n,v) :: M,h=>by
  obtain ⟨t,e⟩:=Value.isInt_shape (h (n,v) List.mem_cons_self);rw [List.map_cons,List.map_cons];dsimp only at e ⊢;rw [e];exact .cons n t (ints_of M fun p hp=>h p (List.mem_cons_of_mem _ hp))
def De (X:Cx):List V->Hp->VK->Prop:=fun xs H Q=>∃ (p:Addr) (ks:List Int),xs = [.ref p]/\H p = some (.ext (E6 X p ks))/\ks.length < 64/\∀ ns l H1,ns.Perm ks->List.Pairwise (fun x y=>x <= y) ns->H l = none->Same H H1->H1 l = some (.lst (ns.map V.int))->Q (.ref l) H1
theorem Ir (hc:X.calm = true:=by rfl):bq X (.builtin "sorted") (De X):=by
 intro pins s σ H xs us Q I r h;obtain ⟨p,ks,rfl,hp,hl,q⟩:=h;obtain ⟨u,rfl,ru⟩:=vals1 r
 cases (show u = Value.ref p from ru)
 have S:SW.SetW (intKind X.prog X.w) s.heap p ks:=(I.hok p _ hp).1;refine Calls.call_function_entry kind_sorted plain_sorted entry_sorted (args_sorted1 _) ?_;show wpAny _ _ (checkCount "sorted" 1 1 1 >>= _) _ _ _;refine wpAny_bind (wpAny_pure (wpAny_bind (SW.collect_set (A:=X.A.in1) (I.ok.hd hc) S fun h1 d tk M m1 m2 k1=>?_)))
 have ml:(M.map (·.2)).length = ks.length:=by rw [List.length_map,<- m1.length_eq,List.length_map]
 refine wpAny_bind (wpAny_newList ?_ (by rw [ml,sizeLine_eq];omega));have gL:(h1.push (seqObj "list" (M.map (·.2)).toArray 0)).get? h1.objs.size = some (seqObj "list" (M.map (·.2)).toArray 0):=Heap.get?_push_size _ rfl;refine wpAny_bind (wpAny_holding (wpAny_call_entry slot_list_sort ⟨_,gL,rfl⟩ entry_list_sort (list_sort_tree gL (ints_of M m2) (by rw [ml];exact hl) fun out SY a1 a2 a3=>⟨_,rfl,?_⟩) (args_list_sort _)))
 obtain ⟨e,he⟩:=sortedHeap_at (out:=out) gL;have I1:Inv X pins σ H { s with heap:=h1,drawn:=d,toks:=tk }:=I.keptD k1;have k2:∀ b u,h1.get? b = some u->(sortedHeap (h1.push (seqObj "list" (M.map (·.2)).toArray 0)) h1.objs.size (M.map (·.2)) out).get? b = some u:=fun b u z=>by
  have lb:=Heap.lt_size z;rw [sortedHeap_old (Nat.ne_of_lt lb) (by rw [size_push'];exact Nat.lt_succ_of_lt lb)];exact Heap.get?_push_of_some _ z
 have hn:H h1.objs.size = none:=I1.hok.fresh (Nat.le_refl _);exact wpAny_pure ⟨_,rfl,.ref h1.objs.size,_,I1.laid (a:=h1.objs.size) (o:=.lst (SY.map V.int)) (t':=tk) k2 (Nat.le_refl _) ⟨by rw [List.length_map,a2.length_eq,m1.length_eq,sizeLine_eq];omega,out.toList,e,wa a1,he⟩,rfl,q SY _ _ (a2.trans m1) a3 hn (aE hn) ak⟩
theorem FP (ns:List Int) (h1:SqL X.K H p (ns.map V.int)) (h2:ns.length < 4000) (q:∀ l H1,H l = none->Same H H1->H1 l = some (.ext (E6 X l (SW.onces ns)))->Q (.ref l) H1):I0 X [.ref p] H Q:=⟨p,ns,rfl,h1,h2,q⟩
theorem C1 (ks:List Int) (h1:H p = some (.ext (E6 X p ks))) (h2:ks.length < 64) (q:∀ ns l H1,ns.Perm ks->List.Pairwise (fun x y=>x <= y) ns->H l = none->Same H H1->H1 l = some (.lst (ns.map V.int))->Q (.ref l) H1):De X [.ref p] H Q:=⟨p,ks,rfl,h1,h2,q⟩
end
section
variable {X:Cx} {K:W.Frag} {σ:St} {H:Hp} {Q:VK} {pins:List (Addr × Obj)} {s:Shared}
abbrev E5 (X:Cx) (a:Addr) (ks:List Str):Heap->Prop:=fun h=>SW.SetW (PySem.strKind X.prog X.w) h a ks
def IZ (X:Cx):List V->Hp->VK->Prop:=fun xs H Q=>∃ (p:Addr) (ns:List Str),xs = [.ref p]/\SqL X.K H p (ns.map V.str)/\ns.length < 4000/\∀ l H1,H l = none->Same H H1->H1 l = some (.ext (E5 X l (SW.onces ns)))->Q (.ref l) H1
theorem Mo (hc:X.calm = true:=by rfl):bq X (.type "set") (IZ X):=by
 intro pins s σ H xs us Q I r h;obtain ⟨p,ns,rfl,hp,hl,q⟩:=h;obtain ⟨u,rfl,ru⟩:=vals1 r
 cases (show u = Value.ref p from ru)
 obtain ⟨its,r',pl,_⟩:=I.list hp;have kJ:its.length = ns.length:=by rw [r'.len,List.length_map]
 refine SW.sw_set (kd:=PySem.strKind X.prog X.w) (its:=its.toArray) (ks:=ns) (I.ok.hd hc) pl.isList (by rw [List.size_toArray,kJ]) (fun i v hv=>?_) (by unfold scanBound;omega) fun h' tk S kp=>?_
 ·rw [List.getElem?_toArray] at hv;have hi:i < ns.length:=by rw [<- kJ];exact (List.getElem?_eq_some_iff.mp hv).1
  obtain ⟨u,hu,ru⟩:=r'.get (show (ns.map V.str)[i]? = some (V.str ns[i]) by rw [List.getElem?_map,List.getElem?_eq_getElem hi];rfl);rw [hv] at hu
  cases hu
  obtain ⟨t,rfl⟩:=ru;exact ⟨ns[i],List.getElem?_eq_getElem hi,by show Value.isStrOf ns[i] (.str ns[i] t) = true;simp [Value.isStrOf],rfl⟩
 ·have ho:∃ o,h'.get? s.heap.objs.size = some o:=by obtain ⟨o,_,_,_,_,e,_⟩:=S;exact ⟨o,e⟩
  refine ⟨.ref s.heap.objs.size,_,I.laid (o:=.ext (E5 X s.heap.objs.size (SW.onces ns))) (t':=tk) kp (Nat.le_refl _) ⟨S,ho,fun h1 h2 z k=>z.kept k⟩,rfl,q _ _ I.fresh (aE I.fresh) ak⟩
theorem FO (ns:List Str) (h1:SqL X.K H p (ns.map V.str)) (h2:ns.length < 4000) (q:∀ l H1,H l = none->Same H H1->H1 l = some (.ext (E5 X l (SW.onces ns)))->Q (.ref l) H1):IZ X [.ref p] H Q:=⟨p,ns,rfl,h1,h2,q⟩
end
end L2
namespace L2
open PySem PySem.Spec PySem.W PyProof.Rows TS
end L2
namespace L2
open PySem PySem.Spec PyProof.Rows
theorem eT (k n:Nat):max (0:Int) (min (if (k:Int) < 0 then (k:Int) + (n:Int) else (k:Int)) (n:Int)) = ((min k n:Nat):Int):=by rw [if_neg (by omega)];omega
theorem D' (i j n:Nat):Builtin.Str.strSliceIndices (some (i:Int)) (some (j:Int)) 1 n = Builtin.Str.strSliceIndices (some ((min i n:Nat):Int)) (some ((min j n:Nat):Int)) 1 n:=by
 show sliceRange (max (0:Int) (min (if (i:Int) < 0 then (i:Int) + (n:Int) else (i:Int)) (n:Int))) (max (0:Int) (min (if (j:Int) < 0 then (j:Int) + (n:Int) else (j:Int)) (n:Int))) 1
  = sliceRange (max (0:Int) (min (if ((min i n:Nat):Int) < 0 then ((min i n:Nat):Int) + (n:Int) else ((min i n:Nat):Int)) (n:Int))) (max (0:Int) (min (if ((min j n:Nat):Int) < 0 then ((min j n:Nat):Int) + (n:Int) else ((min j n:Nat):Int)) (n:Int))) 1
 rw [eT,eT,eT,eT,Nat.min_assoc,Nat.min_assoc,Nat.min_self]
theorem Af {z:Str} {i j:Nat} (h:i <= j):(Txt.slice z (some (i:Int)) (some (j:Int))).cps.toList = (z.cps.toList.drop i).take (j - i):=by
 have e:Txt.slice z (some (i:Int)) (some (j:Int)) = Txt.slice z (some ((min i z.length:Nat):Int)) (some ((min j z.length:Nat):Int)):=by
  unfold Txt.slice;rw [D']
 rw [e,Ae (by omega) (by omega),len_list]
 by_cases c:i <= z.cps.toList.length
 ·rw [Nat.min_eq_left c]
  by_cases d:j <= z.cps.toList.length
  ·rw [Nat.min_eq_left d]
  ·rw [Nat.min_eq_right (by omega),List.take_of_length_le (by rw [List.length_drop];omega),List.take_of_length_le (by rw [List.length_drop];omega)]
 ·rw [List.drop_eq_nil_of_le (show z.cps.toList.length <= i by omega),List.drop_eq_nil_of_le (show z.cps.toList.length <= min i z.cps.toList.length by omega),List.take_nil,List.take_nil]
theorem xW (z:Str) (j:Nat):(Txt.slice z none (some (j:Int))).cps.toList = z.cps.toList.take j:=by
 have e:Txt.slice z none (some (j:Int)) = Txt.slice z (some ((0:Nat):Int)) (some (j:Int)):=by
  unfold Txt.slice;rw [show Builtin.Str.strSliceIndices none (some (j:Int)) 1 z.length = Builtin.Str.strSliceIndices (some ((0:Nat):Int)) (some (j:Int)) 1 z.length from by
   show sliceRange 0 _ 1 = sliceRange (max (0:Int) (min (if ((0:Nat):Int) < 0 then ((0:Nat):Int) + (z.length:Int) else ((0:Nat):Int)) (z.length:Int))) _ 1
   rw [eT,Nat.zero_min]
   rfl]
 rw [e,Af (Nat.zero_le j),List.drop_zero,Nat.sub_zero]
theorem xX (z:Str) (i:Nat):(Txt.slice z (some (i:Int)) none).cps.toList = z.cps.toList.drop i:=by
 have e:Txt.slice z (some (i:Int)) none = Txt.slice z (some ((min i z.length:Nat):Int)) none:=by
  unfold Txt.slice;rw [show Builtin.Str.strSliceIndices (some (i:Int)) none 1 z.length = Builtin.Str.strSliceIndices (some ((min i z.length:Nat):Int)) none 1 z.length from by
   show sliceRange (max (0:Int) (min (if (i:Int) < 0 then (i:Int) + (z.length:Int) else (i:Int)) (z.length:Int))) _ 1 = sliceRange (max (0:Int) (min (if ((min i z.length:Nat):Int) < 0 then ((min i z.length:Nat):Int) + (z.length:Int) else ((min i z.length:Nat):Int)) (z.length:Int))) _ 1
   rw [eT,eT,Nat.min_assoc,Nat.min_self]]
 rw [e,xV (by omega) (by omega),Int.toNat_natCast,len_list]
 by_cases c:i <= z.cps.toList.length
 ·rw [Nat.min_eq_left c]
 ·rw [List.drop_eq_nil_of_le (show z.cps.toList.length <= i by omega),List.drop_eq_nil_of_le (by omega)]
end L2
namespace L2
open PySem PySem.Spec PySem.W PyProof.Rows
variable {H H':Hp} {c f cc T:Addr} {P:Program} {w:World} {K:W.Frag} {mg:Str->Option Value} {base:Heap} {qual p g iq:Str} {params ip:Arguments} {scope ua:Scope} {s:Shared} {v:V} {k:Nat} {pos jW:Pos} {X:Cx} {σ:St} {ib:List Stmt} {Q:VK}
def qa (name qual:Str) (params:Arguments) (body:List Stmt) (scope:Scope) (cl:List (Str × Addr)) (f c':Addr) (h:Heap):Prop:=∃ doc pm iP,h.get? f = some (fnMade name qual params body scope cl doc pm c' iP)
def yP (v:V) (c:Addr) (h:Heap):Prop:=∃ u,RelV v u/\h.IsCell c (some u)
def del (H:Hp) (c:Addr):Hp:=fun b=>if b = c then none else H b
theorem pj:del H c c = none:=if_pos rfl
theorem lT {b:Addr} (h:b ≠ c):del H c b = H b:=if_neg h
theorem ph {b:Addr} {o:HO} (h:del H c b = some o):b ≠ c/\H b = some o:=by
 unfold del at h
 split at h
 ·cases h
 ·exact ⟨by assumption,h⟩
def P2 (P:Program) (w:World) (K:W.Frag) (mg:Str->Option Value) (base:Heap) (N:List Str) (qual:Str) (scope:Scope) (f:Addr) (cd:Value) (cl:List (Str × Addr)) (A:Around) (outer:List Env) (s:Shared) (H:Hp):Cx where
 prog:=P
 w:=w
 K:=K
 mg:=mg
 base:=base
 A:=A.deeper (envX qual scope s.heap.objs.size f cd cl)
 N:=N
 s₀:=s
 H₀:=H
 env:=envX qual scope s.heap.objs.size f cd cl
 outer:=outer
 stack:=envX qual scope s.heap.objs.size f cd cl :: outer
 ex:=[]
 calm:=true
 fn:=fun _=>false
 pn:=[]
 xe:=fun _ _=>False
structure p9 (N ps:List Str) (p:Str) (ip:Nat) (sc:Scope):Prop where
 kind:sc.kind = .function
 co:sc.isCoroutine = false
 gen:sc.isGenerator = false
 nd:N.Nodup
 pre:N.take ps.length = ps
 par:∀ x ∈ ps,sc.names.lookup x = some .local
 nocell:∀ y ∈ sc.names,y.2 ≠ .cell
 isfree:sc.names.lookup p = some .free
 free:∀ y ∈ sc.names,y.2 = .free->y.1 = p
 at_:N[ip]? = some p
 behind:ps.length <= ip
section
theorem HX {h:Heap} {P':Heap->Prop} (x:HOk P w H h) (e:H c = some (.ext P')):HOk P w (del H c) h:=fun a o q=>by
 obtain ⟨n,q⟩:=ph q;exact (x a o q).stay (fun b u _ r=>r) (fun b r=>by rw [lT (fun z=>by rw [z,e] at r;cases r)];exact r) fun b xs r=>by rw [lT (fun z=>by rw [z,e] at r;cases r)];exact r
theorem uU {x:Str} {u:Value}:∀ {ps:List Str} {us:List Value} {i:Nat},ps.Nodup->ps[i]? = some x->us[i]? = some u->(ps.zip us).reverse.lookup x = some u
 | [],us,i,_,h,_=>by simp at h
 | q :: ps,[],i,_,_,h=>by simp at h
 | q :: ps,v :: us,0,nd,h1,h2=>by
  simp at h1 h2;subst h1 h2;rw [List.nodup_cons] at nd;rw [List.zip_cons_cons,List.reverse_cons,List.lookup_append];have e:(ps.zip us).reverse.lookup q = none:=by
   rw [List.lookup_eq_none_iff];intro y hy;have:=(List.of_mem_zip (List.mem_reverse.mp hy)).1;have hne:q ≠ y.1:=fun z=>nd.1 (z ▸ this)
   simpa using hne
  rw [e];simp
 | q :: ps,v :: us,i + 1,nd,h1,h2=>by
  rw [List.nodup_cons] at nd;rw [List.zip_cons_cons,List.reverse_cons,List.lookup_append,uU (i:=i) nd.2 (by simpa using h1) (by simpa using h2)]
  rfl
theorem Ip {name : Str} {body : List Stmt} {N ps : List Str} {ip : Nat} {c' : Addr} {A : Around} {outer : List Env} {us : List Value} {vs : List V} {Q : V -> Prop}
    (S:p9 N ps p ip scope) (hr:Room (k + 1) A) (e0:Env0 P w K mg base A outer s H) (hf:H f = some (.ext (qa name qual params body scope [(p,cc)] f c'))) (hc:H c' = some (.ext (fj qual c'))) (oK:H cc = some (.ext (yP v cc)))
    (hb:∀ doc pm iP,bindArgs (fnX name qual params body scope [(p,cc)] .none .none doc pm none (.ref c') iP) ⟨us,[]⟩ = pure (ps.zip us)) (hl:vs.length = ps.length) (r:Vals vs us)
    (du:Room k (A.deeper (envX qual scope s.heap.objs.size f (.ref c') [(p,cc)]))->∃ t,BD (P2 P w K mg base N qual scope f (.ref c') [(p,cc)] A outer s (del H cc)) body t /\
     t { nx:=fun _ _=>False,rt:=fun v' H'=>H' = del H cc/\Q v' } ((start N vs).set ip (some v)) (del H cc)) :
    wpAny (model P w) A (call (.ref f) us) (CE outer P w H s fun v' H'=>H' = H/\Q v') (fun _ _=>False) s:=by
 obtain ⟨doc,pm,iP,gf⟩:=(e0.hok f _ hf).1;have OD:s.heap.CodeRec (.ref c') qual:=(e0.hok c' _ hc).1;obtain ⟨uc,SM,oc,RW,Jx⟩:=(e0.hok cc _ oK).1;have lim:s.heap.NoLimit:=e0.mod.nolimit.keeps fun b o e=>(e0.bs b o e).1
 refine wpAny_call (codeAny_call_function hr.depth gf rfl S.co S.gen rfl OD ?_);rw [hb];refine wpAny_pure (wpAny_newFunctionEnv S.nocell (fun y hy=>S.par y.1 (List.of_mem_zip hy).1) (fun h' hn PL=>?_) S.kind)
 have kp:∀ b o,s.heap.get? b = some o->h'.get? b = some o:=fun b o e=>by
  rw [PL.2 b (Nat.ne_of_lt (Heap.lt_size e))];exact Heap.get?_push_of_some _ e
 refine ⟨lim.keeps kp,codeAny_func ?_⟩;obtain ⟨t,ht,hq⟩:=du (hr.deeper _);have fr:del H cc s.heap.objs.size = none:=by
  by_cases z:s.heap.objs.size = cc
  ·rw [z];exact pj
  ·rw [lT z];exact e0.hok.fresh (Nat.le_refl _)
 have PC:∀ x c,([(p,cc)]:List (Str × Addr)).lookup x = some c->x = p/\c = cc:=fun x c e=>by
  rw [List.lookup_cons] at e
  by_cases z:x = p
  ·subst z;simp at e;exact ⟨rfl,e.symm⟩
  ·rw [beq_eq_false_iff_ne.mpr z] at e;simp at e
 have Tc:([(p,cc)]:List (Str × Addr)).lookup p = some cc:=by simp
 have lL:ps.length <= N.length:=by have:=congrArg List.length S.pre;rw [List.length_take] at this;omega
 have PB:ps.Nodup:=by rw [<- S.pre];exact S.nd.sublist (List.take_sublist _ _)
 have hu:us.length = ps.length:=by rw [<- r.length,hl]
 have I:Inv (P2 P w K mg base N qual scope f (.ref c') [(p,cc)] A outer s (del H cc)) [] ((start N vs).set ip (some v)) (del H cc) { s with heap:=h',toks:=s.toks + (ps.zip us).length }:=by
  have bs:∀ b o,base.get? b = some o->s.heap.get? b = some o/\del H cc b = none:=fun b o e=>by
   obtain ⟨q1,q2⟩:=e0.bs b o e;refine ⟨q1,?_⟩;unfold del
   split
   ·rfl
   ·exact q2
  have frf:∀ b ∈ rT outer,del H cc b = none:=fun b hb=>by
   unfold del
   split
   ·rfl
   ·exact e0.frf b hb
  have noex:∀ b:Addr,b ∉ ([]:List Addr):=fun b z=>by cases z
  refine ⟨⟨e0.mod,S.kind,rfl,rfl,Nat.le_refl _,fun x y c h1 h2=>?_,fun x hx=>?_,fun x c hx _=>?_,fun _=>hr.hd,Around.frames_deeper e0.frames,.inr ⟨rfl,rfl⟩,fun b z=>absurd z (noex b),bs,e0.bsz,fun b _ _=>noex b,fun b z=>absurd z (noex b),e0.funs,frf⟩,
   rfl,e0.bare,Un.kept kp,⟨_,hn,fun i x u h1 h2 h3=>?_⟩,fun x c h=>?_,fr,fun x c h=>?_,fun q hq=>absurd hq (by simp [P2]),(HX e0.hok oK).kept kp,?_⟩
  ·rw [(PC x c h1).1,(PC y c h2).1]
  ·rcases hx with hx | hx
   ·exact absurd rfl (S.nocell _ (PySem.mem_of_lookup hx))
   ·have e:x = p:=S.free _ (PySem.mem_of_lookup hx) rfl;exact ⟨cc,by rw [e];exact Tc⟩
  ·cases hx
  ·by_cases z:i = ip
   ·subst z;have ex:x = p:=by
     have js:N[i]? = some x:=h1;rw [S.at_] at js;exact (Option.some.inj js).symm
    have kJ:i < (start N vs).length:=by
     unfold start;rw [List.length_append,List.length_map,List.length_replicate];have:=(List.getElem?_eq_some_iff.mp S.at_).1;omega
    rw [List.getElem?_set_self kJ] at h2
    cases h2
    exact ⟨uc,SM,.inr ⟨.inr (by rw [ex];exact S.isfree),cc,by rw [ex];exact Tc,oc,kp _ _ RW,Jx⟩⟩
   ·rw [List.getElem?_set_ne (Ne.symm z)] at h2;have hi:i < vs.length:=by
     unfold start at h2
     by_cases hi:i < vs.length
     ·exact hi
     ·rw [List.getElem?_append_right (by simpa using hi),List.getElem?_replicate] at h2
      split at h2 <;> cases h2
    have ha:vs[i]? = some u:=by
     unfold start at h2;rw [List.getElem?_append_left (by simpa using hi),List.getElem?_map] at h2
     cases e:vs[i]? with
     | none=>rw [e] at h2;cases h2
     | some a=>rw [e] at h2;cases h2;rfl
    obtain ⟨u',hu',rv⟩:=r.get ha;have qc:ps[i]? = some x:=by
     rw [<- S.pre,List.getElem?_take_of_lt (by omega)];exact h1
    exact ⟨u',rv,.inl ⟨S.par x (List.mem_of_getElem? qc),uU PB qc hu'⟩⟩
  ·rw [(PC x c h).2];exact ⟨_,oc,kp _ _ RW,Jx⟩
  ·rw [(PC x c h).2];exact pj
  ·rw [List.length_set];unfold start;show _ = N.length;rw [List.length_append,List.length_map,List.length_replicate];omega
 refine wpAny_mono (ht.h [] _ _ _ _ I hq) (fun fl s' hs=>?_) fun e s' hs=>hs.elim
 cases fl with
 | ret u =>
  obtain ⟨v',σ',H',J,rv,rfl,q⟩:=hs;have un:Un (rT outer) [] (del H cc) (del H cc) s.heap s'.heap:=J.base;have nb:cc ∉ rT outer:=fun z=>by rw [e0.frf cc z] at oK;cases oK
  have OJ:=un.keep cc oc RW pj nb (by simp);refine ⟨v',H,J.os,J.bare,⟨fun b o q1 q2 q3 q4=>un.keep b o q1 (by rw [lT (fun z=>by rw [z,oK] at q2;cases q2)];exact q2) q3 q4,fun b o q1 q2 q3 q4=>un.slot b o q1 (by rw [lT (fun z=>by rw [z,oK] at q2;cases q2)];exact q2) q3 q4,fun _ _ _ n _=>n,un.there,fun _ _ q=>q,fun _ _ _ q=>q,fun b ps q=>⟨#[],by rw [q];simp⟩⟩,fun a o q=>?_,rv,rfl,q⟩
  by_cases z:a = cc
  ·subst z;rw [oK] at q
   cases q
   refine ⟨⟨uc,SM,oc,OJ,Jx⟩,⟨oc,OJ⟩,fun h1 h2 x k=>?_⟩
   obtain ⟨u1,a1,o1,a2,a3⟩:=x;exact ⟨u1,a1,o1,k _ a2,a3⟩
  ·have:=J.hok a o (by rw [lT z];exact q);exact this.stay (fun b u _ r=>r) (fun b r=>(ph r).2) fun b xs r=>(ph r).2
 | next =>
  obtain ⟨_,_,_,q⟩:=hs;exact q.elim
 | brk =>
  obtain ⟨_,_,_,q⟩:=hs;exact q.elim
 | cont =>
  obtain ⟨_,_,_,q⟩:=hs;exact q.elim
end
def SameB (T:Addr) (H H':Hp):Prop:=∀ b o,H b = some o->b ≠ T->H' b = some o
theorem SameB.of (s:Same H H'):SameB T H H':=fun b o e _=>s b o e
theorem SameB.refl:SameB T H H:=fun _ _ e _=>e
theorem SameB.trans {H1 H2:Hp} (a:SameB T H H1) (b:SameB T H1 H2):SameB T H H2:=fun c o e n=>b c o (a c o e n) n
theorem SameB.toN {ps:Array Value} (s:SameB T H H') (h:H T = some (.tbl ps)):SameN H H':=fun b o e n=>s b o e fun z=>by rw [z,h] at e;cases e;exact n _ rfl
theorem TabOk.tbl {P:Addr} (h:TabOk P pos qual H):∃ ps,H P = some (.tbl ps):=let ⟨ps,a,_⟩:=h;⟨ps,a⟩
theorem TabOk.sameB {P:Addr} (h:TabOk P pos qual H) (s:SameB T H H') (n:P ≠ T) (hT:∃ ps,H T = some (.tbl ps)):TabOk P pos qual H':=by
 obtain ⟨ps,h1,h2,h3⟩:=h;obtain ⟨qs,hT⟩:=hT;exact ⟨ps,s _ _ h1 n,h2,h3.imp id fun ⟨c',a,b⟩=>⟨c',a,s _ _ b fun z=>by rw [z,hT] at b;cases b⟩⟩
section
variable {body:Expr} {P:Addr}
def Nf (qual:Str) (P:Addr) (params:Arguments) (body:Expr) (scope:Scope) (pos:Pos):TE:=fun _ H Q=>∃ ps,H P = some (.tbl ps)/\TriplesOk ps.toList/\codeAmong pos ps.toList = none /\
 ∀ f c' H' Fe,H f = none->H c' = none->SameB P H H'->(Fe = ps ++ #[rawInt ↑pos.line,rawInt ↑pos.col,Value.ref c']/\H' P = some (.tbl Fe))->H' f = some (.ext (xa (qual ++ Str.ofString "<lambda>") params body scope f c'))->H' c' = some (.ext (fj (qual ++ Str.ofString "<lambda>") c'))->Q (.ref f) H'
theorem GO (jF : X.env.code = .ref c) (hC : CodeHd X.base c P) (hB : X.base.BuiltinsAt X.mg P) (hd : defaultsOf params X.env = ([], []) := by rfl) (hc : closureFor scope X.env = pure [] := by rfl) (hg : X.env.globals = mainGlobals := by rfl) :
    PE X (.Lambda params body scope pos) (Nf X.env.qual P params body scope pos):=by
 intro pins s σ H Q I h;obtain ⟨ps,hP,ht,hn,q⟩:=h;have zv:s.heap.get? P = some (tabObj ps):=I.hok P _ hP;have wq:s.heap.Ns mainGlobals X.mg:=by
  obtain ⟨o,es,ep,e,r⟩:=I.mod.glob;exact ⟨o,es,ep,I.bk _ _ e,r⟩
 have hne:mainGlobals ≠ P:=fun z=>by
  obtain ⟨o,es,ep,e,d,r⟩:=I.mod.glob;have:=(I.bs _ _ e).2;rw [z,hP] at this
  cases this
 refine kla_eval hd (kla_makeFunction hc hg wq jF (hC.keeps I.bk) zv ht hn hne (hB.keeps I.bk) fun c' iP h' tk xb l1 l2 cr gP=>?_)
 have fc:H c' = none:=I.hok.fresh l1;have l3:s.heap.objs.size <= h'.objs.size:=Nat.le_trans l1 (Nat.le_of_lt l2);have ff:H h'.objs.size = none:=I.hok.fresh l3;have n1:c' ≠ h'.objs.size:=Nat.ne_of_lt l2;have pc:P ≠ c':=fun z=>by rw [z,fc] at hP;cases hP
 have pf:P ≠ h'.objs.size:=fun z=>by rw [z,ff] at hP;cases hP
 generalize Eb:ps ++ #[rawInt ↑pos.line,rawInt ↑pos.col,Value.ref c'] = Fe at gP;generalize ho:kla_obj (Str.ofString "<lambda>") (X.env.qual ++ Str.ofString "<lambda>") params body scope [] ((X.mg (Str.ofString "__name__")).getD Value.none) c' iP = ob;have gf:(h'.push ob).get? h'.objs.size = some ob:=Heap.get?_push_size _ (by rw [<- ho];rfl);let H':Hp:=upd (upd (upd H P (.tbl Fe)) c' (.ext (fj (X.env.qual ++ Str.ofString "<lambda>") c'))) h'.objs.size (.ext (xa (X.env.qual ++ Str.ofString "<lambda>") params body scope h'.objs.size c'))
 have eP:H' P = some (.tbl Fe):=by show upd _ _ _ _ = _;rw [aj pf,aj pc,ak]
 have ec:H' c' = some (.ext (fj (X.env.qual ++ Str.ofString "<lambda>") c')):=by show upd _ _ _ _ = _;rw [aj n1,ak]
 have ef:H' h'.objs.size = some (.ext (xa (X.env.qual ++ Str.ofString "<lambda>") params body scope h'.objs.size c')):=ak;have eo:∀ b,b ≠ P->b ≠ c'->b ≠ h'.objs.size->H' b = H b:=fun b a1 a2 a3=>by show upd _ _ _ _ = _;rw [aj a3,aj a2,aj a1]
 have ek:∀ b o,H b = some o->b ≠ P->H' b = some o:=fun b o e a1=>by
  rw [eo b a1 (fun z=>by rw [z,fc] at e;cases e) (fun z=>by rw [z,ff] at e;cases e)];exact e
 have kp:∀ b o,b ≠ P->s.heap.get? b = some o->(h'.push ob).get? b = some o:=fun b o a e=>Heap.get?_push_of_some _ (xb b o a e)
 have un:Un X.fs [] H H' s.heap (h'.push ob):=by
  refine ⟨fun b o e n _ _=>kp b o (fun z=>by rw [z,hP] at n;cases n) e,fun b o e n _ _=>⟨o.slots,kp b o (fun z=>by rw [z,hP] at n;cases n) e⟩,fun b o e n _=>?_,fun b o e _=>?_,fun b xs e=>ek b _ e (fun z=>by rw [z,hP] at e;cases e),fun b o u e=>ek b _ e (fun z=>by rw [z,hP] at e;cases e),fun b qs e=>?_⟩
  ·have lb:=Heap.lt_size e;rw [eo b (fun z=>by rw [z,hP] at n;cases n) (Nat.ne_of_lt (Nat.lt_of_lt_of_le lb l1)) (Nat.ne_of_lt (Nat.lt_of_lt_of_le lb l3))]
   exact n
  ·by_cases z:b = P
   ·exact ⟨_,by rw [z];exact Heap.get?_push_of_some _ gP⟩
   ·exact ⟨o,kp b o z e⟩
  ·by_cases z:b = P
   ·rw [z,hP] at e
    cases e
    exact ⟨#[rawInt ↑pos.line,rawInt ↑pos.col,Value.ref c'],by rw [z,eP,Eb]⟩
   ·exact ⟨#[],by rw [ek b _ e z,Array.append_empty]⟩
 have hok:HOk X.prog X.w H' (h'.push ob):=fun b o e=>by
  by_cases z1:b = h'.objs.size
  ·rw [z1,ef] at e
   cases e
   rw [z1];refine ⟨⟨_,_,by rw [ho];exact gf⟩,⟨_,gf⟩,fun h1 h2 x k=>?_⟩
   obtain ⟨pm,iP,e⟩:=x;exact ⟨pm,iP,k _ e⟩
  by_cases z2:b = c'
  ·rw [z2,ec] at e
   cases e
   rw [z2];obtain ⟨c0,o,vs,t,e1,e2,e3,e4⟩:=cr
   cases e1
   refine ⟨⟨c',o,vs,t,rfl,Heap.get?_push_of_some _ e2,e3,e4⟩,⟨o,Heap.get?_push_of_some _ e2⟩,fun h1 h2 x k=>?_⟩
   obtain ⟨c0,o,vs,t,e1,e2,e3,e4⟩:=x
   cases e1
   exact ⟨c',o,vs,t,rfl,k _ e2,e3,e4⟩
  by_cases z3:b = P
  ·rw [z3,eP] at e
   cases e
   rw [z3];exact Heap.get?_push_of_some _ gP
  ·rw [eo b z3 z2 z1] at e;refine (I.hok b o e).stay (fun c v hc r=>kp c v (fun z=>?_) r) (fun c r=>ek c _ r (fun z=>by rw [z,hP] at r;cases r)) fun c xs r=>ek c _ r (fun z=>by rw [z,hP] at r;cases r)
   rcases hc with hc | hc
   ·exact z3 (hc.symm.trans z)
   ·rw [z,hP] at hc;cases hc
 exact ⟨.ref h'.objs.size,H',I.un un hok,rfl,q _ c' H' Fe ff fc ek ⟨Eb.symm,eP⟩ ef ec⟩
def IM (qual:Str) (P:Addr) (params:Arguments) (body:Expr) (scope:Scope) (pos:Pos):TE:=fun _ H Q=>TabOk P pos (qual ++ Str.ofString "<lambda>") H /\
 ∀ f c' H',H f = none->SameB P H H'->TabOk P pos (qual ++ Str.ofString "<lambda>") H'->H' f = some (.ext (xa (qual ++ Str.ofString "<lambda>") params body scope f c'))->H' c' = some (.ext (fj (qual ++ Str.ofString "<lambda>") c'))->Q (.ref f) H'
theorem GN (jF : X.env.code = .ref c) (hC : CodeHd X.base c P) (hB : X.base.BuiltinsAt X.mg P) (hd : defaultsOf params X.env = ([], []) := by rfl) (hc : closureFor scope X.env = pure [] := by rfl) (hg : X.env.globals = mainGlobals := by rfl) :
    PE X (.Lambda params body scope pos) (IM X.env.qual P params body scope pos):=by
 intro pins s σ H Q I h;obtain ⟨⟨ps,hP,ht,hm⟩,q⟩:=h
 rcases hm with hm | ⟨c',hm,zw⟩
 ·refine GO jF hC hB hd hc hg pins s σ H Q I ⟨ps,hP,ht,hm,fun f c' H' Fe a1 a2 a3 a4 a5 a6=>?_⟩;obtain ⟨rfl,a4⟩:=a4;exact q f c' H' a1 a3 ⟨_,a4,by rw [Array.toList_append];exact TriplesOk_snoc _ _ _ _ ht,.inr ⟨c',by rw [Array.toList_append];exact codeAmong_snoc _ ht hm,a6⟩⟩ a5 a6
 ·have zv:s.heap.get? P = some (tabObj ps):=I.hok P _ hP;have wq:s.heap.Ns mainGlobals X.mg:=by
   obtain ⟨o,es,ep,e,r⟩:=I.mod.glob;exact ⟨o,es,ep,I.bk _ _ e,r⟩
  refine kla_eval hd (HH hc hg wq jF (hC.keeps I.bk) zv ht hm (hB.keeps I.bk) fun iP=>?_)
  have ff:H s.heap.objs.size = none:=I.hok.fresh (Nat.le_refl _);have s1:=aE (o:=.ext (xa (X.env.qual ++ Str.ofString "<lambda>") params body scope s.heap.objs.size c')) ff;refine ⟨.ref s.heap.objs.size,_,I.laid (a:=s.heap.objs.size) (o:=.ext (xa (X.env.qual ++ Str.ofString "<lambda>") params body scope s.heap.objs.size c')) (t':=s.toks) (fun b u e=>Heap.get?_push_of_some _ e) (Nat.le_refl _) ?_,rfl,q _ c' _ ff (SameB.of s1) (TabOk.same ⟨ps,hP,ht,.inr ⟨c',hm,zw⟩⟩ s1) ak (s1 _ _ zw)⟩
  refine ⟨⟨_,_,Heap.get?_push_size _ rfl⟩,⟨_,Heap.get?_push_size _ rfl⟩,fun h1 h2 x k=>?_⟩
  obtain ⟨pm,iP,e⟩:=x;exact ⟨pm,iP,k _ e⟩
theorem Mz (jF : X.env.code = .ref c) (hC : CodeHd X.base c P) (hB : X.base.BuiltinsAt X.mg P) (hd : defaultsOf params X.env = ([], []) := by rfl) (hc : closureFor scope X.env = pure [] := by rfl) (hg : X.env.globals = mainGlobals := by rfl) :
    BE X (.Lambda params body scope pos) (IM X.env.qual P params body scope pos):=⟨GN jF hC hB hd hc hg⟩
end
def IT (T:Addr) (jW:Pos) (g iq:Str) (ip:Arguments) (ib:List Stmt) (ua:Scope) (p:Str):Sp:=fun vs H Q _=>∃ v,vs = [v]/\TabOk T jW iq H/\∀ ff c' cc H1,H ff = none->H cc = none->SameB T H H1->TabOk T jW iq H1->H1 ff = some (.ext (qa g iq ip ib ua [(p,cc)] ff c'))->H1 c' = some (.ext (fj iq c'))->H1 cc = some (.ext (yP v cc))->Q (.ref ff) H1
section
variable {pins:List (Addr × Obj)}
theorem ED {cl : List (Str × Addr)} {fl : Nat} {E : Value -> Shared -> Prop} {Q : Value -> Shared -> Prop} (I : Inv X pins σ H s) (jZ : closureFor ua X.env = pure cl) (jF : X.env.code = .ref c) (hC : CodeHd X.base c T) (hB : X.base.BuiltinsAt X.mg T) (ht : TabOk T jW iq H)
    (q:∀ ff c' s1 H1,H ff = none->SameB T H H1->TabOk T jW iq H1->H1 ff = some (.ext (qa g iq ip ib ua cl ff c'))->H1 c' = some (.ext (fj iq c'))->Inv X pins σ H1 s1->Q (.ref ff) s1) :
    wpAny (model X.prog X.w) X.A (makeFunction g iq ip (.stmts ib) ua X.env [] [] [] jW fl) Q E s:=by
 obtain ⟨ps,hP,ht,hm⟩:=ht;have zv:s.heap.get? T = some (tabObj ps):=I.hok T _ hP;have wq:s.heap.Ns mainGlobals X.mg:=by
  obtain ⟨o,es,ep,e,r⟩:=I.mod.glob;exact ⟨o,es,ep,I.bk _ _ e,r⟩
 have hne:mainGlobals ≠ T:=fun z=>by
  obtain ⟨o,es,ep,e,d,r⟩:=I.mod.glob;have:=(I.bs _ _ e).2;rw [z,hP] at this
  cases this
 rcases hm with hm | ⟨c',hm,zw⟩
 ·refine makeFunction_K (mg:=X.mg) jZ I.ok.glob wq jF (hC.keeps I.bk) zv ht hm hne (hB.keeps I.bk) fun c' iP doc h' tk xb l1 l2 cr gP=>?_
  have fc:H c' = none:=I.hok.fresh l1;have l3:s.heap.objs.size <= h'.objs.size:=Nat.le_trans l1 (Nat.le_of_lt l2);have ff:H h'.objs.size = none:=I.hok.fresh l3;have n1:c' ≠ h'.objs.size:=Nat.ne_of_lt l2;have pc:T ≠ c':=fun z=>by rw [z,fc] at hP;cases hP
  have pf:T ≠ h'.objs.size:=fun z=>by rw [z,ff] at hP;cases hP
  generalize Eb:ps ++ #[rawInt ↑jW.line,rawInt ↑jW.col,Value.ref c'] = Fe at gP;generalize ho:fnMade g iq ip ib ua cl doc ((X.mg (Str.ofString "__name__")).getD Value.none) c' iP = ob;have gf:(h'.push ob).get? h'.objs.size = some ob:=Heap.get?_push_size _ (by rw [<- ho];rfl);let H':Hp:=upd (upd (upd H T (.tbl Fe)) c' (.ext (fj iq c'))) h'.objs.size (.ext (qa g iq ip ib ua cl h'.objs.size c'))
  have eP:H' T = some (.tbl Fe):=by show upd _ _ _ _ = _;rw [aj pf,aj pc,ak]
  have ec:H' c' = some (.ext (fj iq c')):=by show upd _ _ _ _ = _;rw [aj n1,ak]
  have ef:H' h'.objs.size = some (.ext (qa g iq ip ib ua cl h'.objs.size c')):=ak;have eo:∀ b,b ≠ T->b ≠ c'->b ≠ h'.objs.size->H' b = H b:=fun b a1 a2 a3=>by show upd _ _ _ _ = _;rw [aj a3,aj a2,aj a1]
  have ek:∀ b o,H b = some o->b ≠ T->H' b = some o:=fun b o e a1=>by
   rw [eo b a1 (fun z=>by rw [z,fc] at e;cases e) (fun z=>by rw [z,ff] at e;cases e)];exact e
  have kp:∀ b o,b ≠ T->s.heap.get? b = some o->(h'.push ob).get? b = some o:=fun b o a e=>Heap.get?_push_of_some _ (xb b o a e)
  have un:Un X.fs [] H H' s.heap (h'.push ob):=by
   refine ⟨fun b o e n _ _=>kp b o (fun z=>by rw [z,hP] at n;cases n) e,fun b o e n _ _=>⟨o.slots,kp b o (fun z=>by rw [z,hP] at n;cases n) e⟩,fun b o e n _=>?_,fun b o e _=>?_,fun b xs e=>ek b _ e (fun z=>by rw [z,hP] at e;cases e),fun b o u e=>ek b _ e (fun z=>by rw [z,hP] at e;cases e),fun b qs e=>?_⟩
   ·have lb:=Heap.lt_size e;rw [eo b (fun z=>by rw [z,hP] at n;cases n) (Nat.ne_of_lt (Nat.lt_of_lt_of_le lb l1)) (Nat.ne_of_lt (Nat.lt_of_lt_of_le lb l3))]
    exact n
   ·by_cases z:b = T
    ·exact ⟨_,by rw [z];exact Heap.get?_push_of_some _ gP⟩
    ·exact ⟨o,kp b o z e⟩
   ·by_cases z:b = T
    ·rw [z,hP] at e
     cases e
     exact ⟨#[rawInt ↑jW.line,rawInt ↑jW.col,Value.ref c'],by rw [z,eP,Eb]⟩
    ·exact ⟨#[],by rw [ek b _ e z,Array.append_empty]⟩
  have hok:HOk X.prog X.w H' (h'.push ob):=fun b o e=>by
   by_cases z1:b = h'.objs.size
   ·rw [z1,ef] at e
    cases e
    rw [z1];refine ⟨⟨_,_,_,by rw [ho];exact gf⟩,⟨_,gf⟩,fun h1 h2 x k=>?_⟩
    obtain ⟨dc,pm,iP,e⟩:=x;exact ⟨dc,pm,iP,k _ e⟩
   by_cases z2:b = c'
   ·rw [z2,ec] at e
    cases e
    rw [z2];obtain ⟨c0,o,vs,t,e1,e2,e3,e4⟩:=cr
    cases e1
    refine ⟨⟨c',o,vs,t,rfl,Heap.get?_push_of_some _ e2,e3,e4⟩,⟨o,Heap.get?_push_of_some _ e2⟩,fun h1 h2 x k=>?_⟩
    obtain ⟨c0,o,vs,t,e1,e2,e3,e4⟩:=x
    cases e1
    exact ⟨c',o,vs,t,rfl,k _ e2,e3,e4⟩
   by_cases z3:b = T
   ·rw [z3,eP] at e
    cases e
    rw [z3];exact Heap.get?_push_of_some _ gP
   ·rw [eo b z3 z2 z1] at e;refine (I.hok b o e).stay (fun c v hc r=>kp c v (fun z=>?_) r) (fun c r=>ek c _ r (fun z=>by rw [z,hP] at r;cases r)) fun c xs r=>ek c _ r (fun z=>by rw [z,hP] at r;cases r)
    rcases hc with hc | hc
    ·exact z3 (hc.symm.trans z)
    ·rw [z,hP] at hc;cases hc
  refine q h'.objs.size c' _ H' ff ek ⟨_,eP,?_,.inr ⟨c',?_,ec⟩⟩ ef ec (I.un un hok)
  ·rw [<- Eb,Array.toList_append];exact TriplesOk_snoc _ _ _ _ ht
  ·rw [<- Eb,Array.toList_append];exact codeAmong_snoc _ ht hm
 ·refine makeFunction_hit (mg:=X.mg) jZ I.ok.glob wq jF (hC.keeps I.bk) zv ht hm (hB.keeps I.bk) fun iP doc h' tk kp l3=>?_
  have ff:H h'.objs.size = none:=I.hok.fresh l3;have s1:=aE (o:=.ext (qa g iq ip ib ua cl h'.objs.size c')) ff;refine q h'.objs.size c' _ _ ff (SameB.of s1) (TabOk.same ⟨ps,hP,ht,.inr ⟨c',hm,zw⟩⟩ s1) ak (s1 _ _ zw) (I.laid (a:=h'.objs.size) (o:=.ext (qa g iq ip ib ua cl h'.objs.size c')) (t':=tk) (fun b u e=>Heap.get?_push_of_some _ (kp b u e)) l3 ?_)
  refine ⟨⟨_,_,_,Heap.get?_push_size _ rfl⟩,⟨_,Heap.get?_push_size _ rfl⟩,fun h1 h2 x k=>?_⟩
  obtain ⟨dc,pm,iP,e⟩:=x;exact ⟨dc,pm,iP,k _ e⟩
end
section
theorem EE {st : Stmt} {np rpos : Pos} {A : Around} {outer : List Env} {s1 : Shared} {E : XK} {aT : Value} (Og : (ab st).names.lookup p = some .cell) (wq : (ab st).names.lookup g = some .local) (hpg : p ≠ g)
    (hb:aS st = [.FunctionDef g ip ib [] none [] ua none g jW,.Return (some (.Name g np)) rpos]) (MY:ip.defaults = []) (Rr:ip.kw_defaults = []) (ha:∀ env,annTrees ip none env = []) (jZ:∀ env cc,env.cells.lookup p = some cc->closureFor ua env = pure [(p,cc)])
    (hq:∀ L cd,qualnameIn (envOfC qual (ab st) L f cd) g g = iq) (Rv:(g == ("__debug__":Str)) = false) (Mb:aT = .ref c) (hC:CodeHd base c T) (hB:base.BuiltinsAt mg T)
    (e0:Env0 P w K mg base A outer s H) (oK:(cellsFrom (s.heap.objs.size + 1) (ab st).names []).lookup p = some cc) (above:s.heap.objs.size < cc) (I:Inv (gc bR P w K mg base [p,g] qual (ab st) f aT A outer s H E) [] (start [p,g] [v]) H s1) (ht:TabOk T jW iq H)
    (q:∀ ff c' cc H1,H ff = none->H cc = none->SameB T H H1->TabOk T jW iq H1->H1 ff = some (.ext (qa g iq ip ib ua [(p,cc)] ff c'))->H1 c' = some (.ext (fj iq c'))->H1 cc = some (.ext (yP v cc))->Q (.ref ff) H1) :
    wpAny (model P w) (A.deeper (envOfC qual (ab st) s.heap.objs.size f aT)) (execs (aS st) (envOfC qual (ab st) s.heap.objs.size f aT)) (fun fl s'=>∃ u,fl = .ret u/\CE outer P w H s Q u s') (fun _ _=>False) s1:=by
 rw [hb];refine wpAny_execs_cons (nestDef_K MY Rr (ha _) ?_);rw [hq];refine ED (X:=gc bR P w K mg base [p,g] qual (ab st) f aT A outer s H E) I (jZ _ cc oK) Mb hC hB ht fun ff c' s2 H2 h1 h2 h3 h4 h5 I2=>?_
 refine iC I2 (i:=1) (x:=g) (v:=.ref ff) (by simpa [gc] using hpg) rfl (.inl wq) rfl (fun s3 I3=>?_) (.inr wq);refine wpAny_execs_cons ?_;obtain ⟨m,hn,hl⟩:=I3.loc;obtain ⟨u,ru,lu⟩:=hl 1 g (.ref ff) rfl rfl (.inl wq);obtain ⟨u0,Vq,VJ⟩:=hl 0 p v rfl rfl (.inr (.inl Og))
 cases (show u = Value.ref ff from ru)
 have lg:m g = some (.ref ff):=by
  rcases lu with ⟨_,hm⟩ | ⟨hk,_⟩
  ·exact hm
  ·rcases hk with hk | hk
   ·rw [show (gc bR P w K mg base [p,g] qual (ab st) f aT A outer s H E).env.kindOf g = some .local from wq] at hk;cases hk
   ·rw [show (gc bR P w K mg base [p,g] qual (ab st) f aT A outer s H E).env.kindOf g = some .local from wq] at hk;cases hk
 have lc:s3.heap.IsCell cc (some u0):=by
  rcases VJ with ⟨hk,_⟩ | ⟨_,c2,MZ,mw⟩
  ·rw [show (gc bR P w K mg base [p,g] qual (ab st) f aT A outer s H E).env.kindOf p = some .cell from Og] at hk;cases hk
  ·have OE:(cellsFrom (s.heap.objs.size + 1) (ab st).names []).lookup p = some c2:=MZ;rw [oK] at OE
   cases OE
   exact mw
 refine wpAny_Return_some (wpAny_Name (wpAny_loadName_local I3.ok.kind wq hn lg ?_) Rv);have WT:H cc = none:=e0.hok.fresh (Nat.le_of_lt above);have MZ:H2 cc = none:=I2.freeC p cc oK;have un:Un (rT outer) [] H H2 s.heap s3.heap:=I3.base;obtain ⟨oc,T3,Jx⟩:=lc;have CT:=aE (o:=.ext (yP v cc)) MZ;refine ⟨.ref ff,rfl,.ref ff,upd H2 cc (.ext (yP v cc)),I3.os,I3.bare,⟨un.keep,un.slot,fun b o e n x=>?_,un.there,fun b xs e=>CT _ _ (un.tups b xs e),fun b o u e=>CT _ _ (un.frzs b o u e),fun b qs e=>?_⟩,fun a o e=>?_,rfl,?_⟩
 ·rw [aj (fun z=>by rw [z] at e;exact absurd (Heap.lt_size e) (Nat.lt_asymm above))]
  exact un.free b o e n x
 ·obtain ⟨more,e⟩:=un.tbls b qs e;exact ⟨more,CT _ _ e⟩
 ·by_cases z:a = cc
  ·subst z;rw [ak] at e
   cases e
   refine ⟨⟨u0,Vq,oc,T3,Jx⟩,⟨oc,T3⟩,fun h1 h2 x k=>?_⟩
   obtain ⟨u1,a1,o1,a2,a3⟩:=x;exact ⟨u1,a1,o1,k _ a2,a3⟩
  ·rw [aj z] at e;exact (I3.hok a o e).stay (fun b u _ r=>r) (fun b r=>CT _ _ r) fun b xs r=>CT _ _ r
 ·exact q ff c' cc _ h1 WT (h2.trans (.of CT)) (h3.same CT) (CT _ _ h4) (CT _ _ h5) ak
theorem Mm {x : Str} {st : Stmt} {fd : FuncData} {np rpos : Pos} (F : Fun K x qual st f fd) (S : ao [p, g] [p] (ab st)) (Og : (ab st).names.lookup p = some .cell) (wq : (ab st).names.lookup g = some .local) (hpg : p ≠ g)
    (hb:aS st = [.FunctionDef g ip ib [] none [] ua none g jW,.Return (some (.Name g np)) rpos]) (MY:ip.defaults = []) (Rr:ip.kw_defaults = []) (ha:∀ env,annTrees ip none env = []) (jZ:∀ env cc,env.cells.lookup p = some cc->closureFor ua env = pure [(p,cc)])
    (hq:∀ L cd,qualnameIn (envOfC qual (ab st) L f cd) g g = iq) (Rv:(g == ("__debug__":Str)) = false) (Mb:fd.code = .ref c) (hC:CodeHd base c T) (hB:base.BuiltinsAt mg T) :
    FnOk P w K mg base bR (k + 1) f fd [p] (IT T jW g iq ip ib ua p):=by
 obtain ⟨oc,od,kV,doc,pm,an,aT,ct,yl,rfl,lk,jF⟩:=F.ex;refine ⟨fun vs H Q E h=>by obtain ⟨v,rfl,_⟩:=h;rfl,fun A outer s H args us vs Q E hr e0 WX r we=>?_⟩
 obtain ⟨v,rfl,ht,q⟩:=we;have KX:K.In s.heap:=e0.mod.kin.keeps fun b o e=>(e0.bs b o e).1
 have lim:s.heap.NoLimit:=e0.mod.nolimit.keeps fun b o e=>(e0.bs b o e).1
 have wk:∀ y ∈ [p].zip us,(ab st).names.lookup y.1 = some .local \/ ((ab st).names.lookup y.1 = some .cell/\((cellsFrom (s.heap.objs.size + 1) (ab st).names []).lookup y.1).isSome = true):=fun ⟨n,v⟩ hy=>by
  rcases S.par n (List.of_mem_zip hy).1 with q | q
  ·exact .inl q
  ·exact .inr ⟨q,W.cellsFrom_some _ _ _ (.inl q)⟩
 refine codeAny_call_function hr.depth (KX _ _ lk) rfl S.co S.gen rfl (W.codeRec_of KX jF) (WX _ _ _ _ ?_);refine wpAny_newFunctionEnv_cells S.kind wk fun env he s1 xc=>?_
 subst he;refine ⟨lim.keeps xc.toInCall.keep,codeAny_func ?_⟩;have I:Inv (gc bR P w K mg base [p,g] qual (ab st) f aT A outer s H E) [] (start [p,g] [v]) H s1:=lJ S hr.hd e0 rfl r xc;obtain ⟨cc,oK⟩:=pH (n:=s.heap.objs.size + 1) Og;have above:s.heap.objs.size < cc:=xc.above p cc (PySem.mem_of_lookup oK);refine wpAny_mono (EE Og wq hpg hb MY Rr ha jZ hq Rv Mb hC hB e0 oK above I ht q) (fun fl s' h=>?_) fun e s' h=>h.elim
 obtain ⟨u,rfl,h⟩:=h;exact h
end
def zM (P:Program) (w:World) (K:W.Frag) (mg:Str->Option Value) (base:Heap) (k:Nat) (ff:Addr) (vs:List V) (H:Hp) (Q:VK):Prop :=
 ∀ (A:Around) (outer:List Env) (s:Shared) (us:List Value),Room k A->Env0 P w K mg base A outer s H->Vals vs us->wpAny (model P w) A (call (.ref ff) us) (CE outer P w H s Q) (fun _ _=>False) s
def xh (H:Hp) (ff:Addr):Prop:=∃ g iq ip ib ua cl c',H ff = some (.ext (qa g iq ip ib ua cl ff c'))
def xP (P:Program) (w:World) (K:W.Frag) (mg:Str->Option Value) (base:Heap) (k:Nat) (tc:TE) (t:TA):TE:=fun σ H Q=>tc σ H fun fv H1=>∃ ff,fv = .ref ff/\xh H1 ff/\t σ H1 fun vs H2=>xh H2 ff/\zM P w K mg base k ff vs H2 Q
section
variable {callee e:Expr} {es:List Expr} {tc:TE} {t:TA}
theorem EF {pins:List (Addr × Obj)} {ff:Addr} (I:Inv X pins σ H s) (h:xh H ff):FnAt ff s.heap:=by
 obtain ⟨g,iq,ip,ib,ua,cl,c',h⟩:=h;obtain ⟨doc,pm,iP,e⟩:=(I.hok ff _ h).1;exact ⟨_,_,_,_,e⟩
theorem DD (hP : X.prog = P) (hw : X.w = w) (hK : X.K = K) (hm : X.mg = mg) (hb : X.base = base) (hr : Room k X.A) (hc : PE X callee tc) (ha : PA X (e :: es) t)
    (Ry:eval (.Call callee (e :: es) [] pos) X.env = (eval callee X.env >>= fun f=>callWith pos f [] (backTo pos (starEach (e :: es) X.env)) (backToKw pos (keywordEach [] X.env))):=by rfl)
    (he:starEach (e :: es) X.env = (false,eval e X.env) :: starEach es X.env:=by rfl) (lL:(backTo pos (starEach es X.env)).any (·.1) = false:=by rfl) :
    PE X (.Call callee (e :: es) [] pos) (xP P w K mg base k tc t):=by
 subst hP hw hK hm hb;intro pins s σ H Q I h;rw [Ry];refine wpAny_bind (bw (hc pins s σ H _ I h) fun f s1 ⟨fv,H1,I1,rf,ff,e1,h1,q⟩=>?_)
 subst e1
 cases (show f = Value.ref ff from rf)
 refine callWith_F (EF I1 h1) (bw (ha pos pins s1 σ H1 _ I1 q) fun us s2 ⟨vs,H2,I2,r,h2,q2⟩=>⟨EF I2 h2,?_⟩) he lL
 exact wpAny_mono (q2 X.A X.stack s2 us hr I2.env0 r) (fun u s3 WS=>I2.after WS) fun _ _ z=>z.elim
theorem ID (hP : X.prog = P) (hw : X.w = w) (hK : X.K = K) (hm : X.mg = mg) (hb : X.base = base) (hr : Room k X.A) (hc : BE X callee tc) (ha : BA X (e :: es) t)
    (Ry:eval (.Call callee (e :: es) [] pos) X.env = (eval callee X.env >>= fun f=>callWith pos f [] (backTo pos (starEach (e :: es) X.env)) (backToKw pos (keywordEach [] X.env))):=by rfl)
    (h1:isStar e = false:=by rfl) (h2:noStar es = true:=by rfl) :
    BE X (.Call callee (e :: es) [] pos) (xP P w K mg base k tc t):=⟨DD hP hw hK hm hb hr hc.h ha.h Ry (aG h1) (bL h2)⟩
instance YE:aV (xP P w K mg base k tc t σ H Q) (tc σ H fun fv H1=>∃ ff,fv = .ref ff/\xh H1 ff/\t σ H1 fun vs H2=>xh H2 ff/\zM P w K mg base k ff vs H2 Q):=⟨id⟩
theorem CU {name : Str} {body : List Stmt} {N ps : List Str} {ip : Nat} {c' : Addr} {vs : List V} {R : V -> Prop} (S : p9 N ps p ip scope) (hf : H f = some (.ext (qa name qual params body scope [(p, cc)] f c'))) (hc : H c' = some (.ext (fj qual c'))) (oK : H cc = some (.ext (yP v cc)))
    (hb:∀ us doc pm iP,us.length = ps.length->bindArgs (fnX name qual params body scope [(p,cc)] .none .none doc pm none (.ref c') iP) ⟨us,[]⟩ = pure (ps.zip us)) (hl:vs.length = ps.length)
    (du:∀ (A:Around) (outer:List Env) (s:Shared),Room k (A.deeper (envX qual scope s.heap.objs.size f (.ref c') [(p,cc)]))->∃ t,BD (P2 P w K mg base N qual scope f (.ref c') [(p,cc)] A outer s (del H cc)) body t /\
     t { nx:=fun _ _=>False,rt:=fun v' H'=>H' = del H cc/\R v' } ((start N vs).set ip (some v)) (del H cc)) (q:∀ v',R v'->Q v' H):zM P w K mg base (k + 1) f vs H Q:=by
 intro A outer s us hr e0 r;refine wpAny_mono (Ip (k:=k) S hr e0 hf hc oK (fun doc pm iP=>hb us doc pm iP (by rw [<- r.length,hl])) hl r fun LU=>du A outer s LU) (fun u s' h=>?_) fun _ _ z=>z
 obtain ⟨v',H',a1,a2,a3,a4,a5,rfl,a6⟩:=h;exact ⟨v',H',a1,a2,a3,a4,a5,q v' a6⟩
end
end L2
namespace HT
open PySem PySem.Spec PyProof.Rows
end HT
namespace L2
open PySem PySem.Spec PyProof.Rows
variable {H:Hp}
section
variable {X:Cx}
def LN (K:W.Frag) (te:TE):TI:=fun σ H R=>zt K te σ H R \/ HS K te σ H R
theorem EO {tg e:Expr} {te:TE} (h:BE X e te):BI X tg e (LN X.K te):=⟨fun pins s σ H R I q=>q.elim (fun q=>(bo h).h pins s σ H R I q) (fun q=>(yF h).h pins s σ H R I q)⟩
end
mutual
theorem Rep.stayN {H H':Hp} (s:SameN H H'):∀ {d:D} {v:V},Rep H d v->Rep H' d v
 | .non,v,h=>by simp only [Rep] at h ⊢;exact h
 | .bl b,v,h=>by simp only [Rep] at h ⊢;exact h
 | .int b,v,h=>by simp only [Rep] at h ⊢;exact h
 | .str b,v,h=>by simp only [Rep] at h ⊢;exact h
 | .lst ds,v,h=>by simp only [Rep] at h ⊢;obtain ⟨a,vs,e,h1,h2⟩:=h;exact ⟨a,vs,e,s _ _ h1 (fun _ z=>by cases z),Reps.stayN s h2⟩
 | .tup ds,v,h=>by simp only [Rep] at h ⊢;obtain ⟨a,vs,e,h1,h2⟩:=h;exact ⟨a,vs,e,s _ _ h1 (fun _ z=>by cases z),Reps.stayN s h2⟩
 | .dct,v,h=>by simp only [Rep] at h ⊢;obtain ⟨a,vs,e,h1⟩:=h;exact ⟨a,vs,e,s _ _ h1 (fun _ z=>by cases z)⟩
theorem Reps.stayN {H H':Hp} (s:SameN H H'):∀ {ds:List D} {vs:List V},Reps H ds vs->Reps H' ds vs
 | [],vs,h=>by simp only [Reps] at h ⊢;exact h
 | d :: ds,vs,h=>by simp only [Reps] at h ⊢;obtain ⟨v,r,e,h1,h2⟩:=h;exact ⟨v,r,e,Rep.stayN s h1,Reps.stayN s h2⟩
end
section
variable {X:Cx} {σ:St} {Q:VK}
def Jb (X:Cx):List V->Hp->VK->Prop:=fun xs H Q=>∃ (p:Addr) (ks:List Str),xs = [.ref p]/\H p = some (.ext (E5 X p ks))/\Q (.int (ks.length:Nat)) H
theorem Mr:bq X (.builtin "len") (Jb X):=by
 intro pins s σ H xs us Q I r h;obtain ⟨p,ks,rfl,hp,q⟩:=h;obtain ⟨u,rfl,ru⟩:=vals1 r
 cases (show u = Value.ref p from ru)
 obtain ⟨o,es,ep,t,L,ho,hex,hd,l1,l2,l3,hb,hf,_,_⟩:=(show SW.SetW (PySem.strKind X.prog X.w) s.heap p ks from (I.hok p _ hp).1);have e:es.size = ks.length:=by rw [<- Array.length_toList,<- l1,List.length_map,<- l2.length_eq,List.length_map]
 refine call_len_set ho hex hd hf (by unfold scanBound at hb;omega) ⟨.int (es.size:Nat),H,I.tok _,⟨_,rfl⟩,?_⟩;rw [e];exact q
theorem FV {p:Addr} (ks:List Str) (h1:H p = some (.ext (E5 X p ks))) (q:Q (.int (ks.length:Nat)) H):Jb X [.ref p] H Q:=⟨p,ks,rfl,h1,q⟩
end
end L2
namespace L2
open PySem PySem.Spec PyProof.Rows
section
variable {X:Cx} {K:W.Frag} {σ:St} {H:Hp} {Q:VK} {e:Expr} {te:TE} {pos:Pos} {pins:List (Addr × Obj)} {s:Shared}
theorem Inv.freezeK {a:Addr} {kvs:List (Key × V)} (I:Inv X pins σ H s) (e:H a = some (.dK kvs)):∃ o,s.heap.get? a = some o/\Inv X pins σ (upd H a (.frz o (.dK kvs))) s:=by
 have ho:=I.hok a _ e;obtain ⟨_,_,xs,r,o,es,ep,h1,h2⟩:=id ho;refine ⟨o,h1,?_⟩;have nt:∀ b u,H b = some u->(∀ k,u ≠ .dK k)->b ≠ a:=fun b u q n z=>by rw [z,e] at q;cases q;exact n _ rfl
 have un:Un X.fs [] H (upd H a (.frz o (.dK kvs))) s.heap s.heap:=by
  refine ⟨fun b o q _ _ _=>q,fun b o q _ _ _=>⟨o.slots,q⟩,fun b o q n _=>?_,fun b o q _=>⟨o,q⟩,fun b xs q=>?_,fun b o u q=>?_,fun b ps q=>⟨#[],?_⟩⟩
  ·rw [aj (fun z=>by rw [z,e] at n;cases n)];exact n
  ·rw [aj (nt b _ q (fun _ z=>by cases z))];exact q
  ·rw [aj (nt b _ q (fun _ z=>by cases z))];exact q
  ·rw [aj (nt b _ q (fun _ z=>by cases z)),q];simp
 have ht:∀ b ys,H b = some (.tup ys)->upd H a (.frz o (.dK kvs)) b = some (.tup ys):=fun b ys q=>by rw [aj (nt b _ q (fun _ z=>by cases z))];exact q
 have hw:∀ b x,H b = some (.own x)->upd H a (.frz o (.dK kvs)) b = some (.own x):=fun b x q=>by rw [aj (nt b _ q (fun _ z=>by cases z))];exact q
 refine I.un (t':=s.toks) un fun b u q=>?_
 by_cases z:b = a
 ·subst z;rw [ak] at q
  cases q
  exact ⟨h1,ho.stay (fun c v _ q=>q) (fun c r=>hw c _ r) fun c xs r=>ht c _ r⟩
 ·rw [aj z] at q;exact (I.hok b u q).stay (fun c v _ q=>q) (fun c r=>hw c _ r) fun c xs r=>ht c _ r
end
theorem ObjOk.some {P:Program} {w:World} {H:Hp} {h:Heap} {a:Addr} {o:HO} (x:ObjOk P w H h a o):∃ ob,h.get? a = Option.some ob:=by
 cases o with
 | lst xs=>obtain ⟨_,_,_,_,e⟩:=x;exact ⟨_,e⟩
 | tup xs=>obtain ⟨_,_,_,ob,e,_⟩:=x;exact ⟨_,e⟩
 | dK kvs=>obtain ⟨_,_,_,_,o,_,_,e,_⟩:=x;exact ⟨_,e⟩
 | dT kvs=>obtain ⟨_,_,_,_,o,_,_,e,_⟩:=x;exact ⟨_,e⟩
 | set S n=>obtain ⟨o,_,_,_,e,_⟩:=x;exact ⟨_,e⟩
 | ins C dx fs=>obtain ⟨_,_,_,e,_⟩:=x;exact ⟨_,e⟩
 | own y=>obtain ⟨_,e⟩:=x;exact ⟨_,e⟩
 | xd fs=>obtain ⟨_,⟨_,_,_,e,_⟩,_⟩:=x;exact ⟨_,e⟩
 | rng lo hi=>obtain ⟨_,_,_,e⟩:=x;exact ⟨_,e⟩
 | frz ob u=>obtain ⟨e,_⟩:=x;exact ⟨_,e⟩
 | tbl ps=>exact ⟨_,(show h.get? a = Option.some _ from x)⟩
 | met f y=>exact ⟨_,(show h.get? a = Option.some _ from x)⟩
 | ext φ=>obtain ⟨_,⟨_,e⟩,_⟩:=x;exact ⟨_,e⟩
def OfCls (h:Heap) (x C:Addr):Prop:=∃ o,h.get? x = some o/\o.cls = .ref C
theorem OfCls.type {M:Model} {h:Heap} {x C:Addr} (I:OfCls h x C):W.Looks M h (typeOf (.ref x)) (.ref C):=by
 obtain ⟨o,e,c⟩:=I;exact c ▸ (W.Looks.ld e).andThen .now
end L2
namespace L2
open PySem PySem.Spec PySem.Calls PySem.W PyProof.Rows Builtin Builtin.ObjectAttr Builtin.Getset_descriptor
section
variable {P:Program} {w:World} {A:Around} {E:Value->Shared->Prop} {s:Shared} {K:W.Frag} {x C:Addr}
theorem OfCls.finds {M : Model} {h : Heap} {name : Str} {a g : Value} (X : K.In h) (ha : findIn K (.ref C) name = some (some a)) (hg : specialIn K a "__get__" = some (some g)) (ht : takesIn K a = some true) :
    Looks M h (find (.ref x) (.ref C) name) (.bind g a):=by
 have f:=looks_takesIn (M:=M) X ht;have d:Looks M h (dataDescriptor? (some a) (some g)) (some (g,a)):=f.andThen .now;exact (looks_findIn X ha).andThen ((show Looks M h (getOf (some a)) (some g) from looks_specialIn X hg).andThen (d.andThen (.tag .now)))
theorem OfCls.class_of {Q : Option Value -> Shared -> Prop} (I : OfCls s.heap x C) (X : K.In s.heap) (hg : plainGet K C "__class__" = true) (ha : findIn K (.ref C) "__class__" = some (some (.builtin "object.__class__")))
    (hn:specialIn K (.builtin "object.__class__") "__get__" = some (some (.builtin "getset_descriptor.__get__"))) (ht:takesIn K (.builtin "object.__class__") = some true) (hm:mroIn K C (.type "object") = some true)
    (h:Q (some (.ref C)) { s with toks:=s.toks + 1 }):wpAny (model P w) A (getAttr? (.ref x) "__class__") Q E s:=by
 obtain ⟨hh,g,d,t,os⟩:=s;have L0:=I.type (M:=model P w);have L1:=looks_findIn (M:=model P w) X (plainGet_of hg).1;have L2:=looks_findIn (M:=model P w) X (plainGet_of hg).2;have L3:=OfCls.finds (M:=model P w) (x:=x) X ha hn ht;have L4:=looks_mroIn (M:=model P w) X hm;unfold getAttr? getAttrBy? getAttrBy;refine wpAny_bind (wpAny_mkText (wpAny_bind (wpAny_attempt (wpAny_holding (wpAny_bind (L0.at (wpAny_bind (L1.at ?_))))))));refine wpAny_bind (wpAny_onRaise (wpAny_runValue (codeAny_builtin PySem.F.plainObj_entry_getattr_hooked ?_)));refine wpAny_bind (wpAny_pure (wpAny_bind (L0.at (wpAny_bind (L3.at (wpAny_bind (L2.at (wpAny_bind (wpAny_holding (wpAny_call ?_))))))))));refine codeAny_call_builtin KF.slot_gs.plain KF.entry_gs (KF.slot_gs.check _ _ _ _ _ _ _ _ KF.type_class (KF.args_gs _ _ _) ?_);simp only [Builtin.«getset_descriptor.__get__»,descrGet,dga_obj,descrGetter,descrCheckInstance,descrNameAndClass,isInstance,KF.owner_class];refine wpAny_bind (wpAny_pure ?_);simp only [KF.owner_class]
 repeat lk
 refine ⟨Code.quiet_builtin _ (by decide +kernel),codeAny_builtin KF.entry_class ?_⟩;simp only [Builtin.«object.__class__»,shownTypeOf]
 repeat lk
 exact h
structure ClsX (K:W.Frag) (C:Addr):Prop where
 hg:plainGet K C "__class__" = true
 ha:findIn K (.ref C) "__class__" = some (some (.builtin "object.__class__"))
 hn:specialIn K (.builtin "object.__class__") "__get__" = some (some (.builtin "getset_descriptor.__get__"))
 ht:takesIn K (.builtin "object.__class__") = some true
 hm:mroIn K C (.type "object") = some true
 hk:kitCls K (.ref C) (.ref C) = some true
theorem ClsX.kit (c:ClsX K C):KitX K (.ref x) (.ref C) fun h=>OfCls h x C where
 ty:=fun _ _ _ I=>I.type
 it:=fun _ _ X _=>(kit_cls X c.hk).2.1
 ne:=fun h tp dd its n sl X V'=>by
  refine Bool.eq_false_iff.mpr fun q=>?_
  cases Value.ref.inj (beq_iff_eq.mp q)
  obtain ⟨cd,e,_⟩:=Option.bind_eq_some_iff.mp c.hm;unfold W.clsIn at e
  split at e
  ·rename_i ho;have z:=(X _ _ ho).symm.trans V'
   cases z
  ·cases e
 ca:=fun X I k=>I.class_of X c.hg c.ha c.hn c.ht c.hm k
end
end L2
namespace L2
open PySem PySem.Spec PyProof.Rows
end L2
namespace L2
open PySem PySem.Spec PySem.Calls PySem.W PyProof.Rows Builtin Builtin.ObjectAttr Builtin.Getset_descriptor
end L2
namespace L2
open PySem PySem.Spec PyProof.Rows
end L2
namespace PySem
open Sem (wp)
end PySem
namespace L2
open PySem PySem.Spec PySem.Calls PySem.W PyProof.Rows Builtin Builtin.ObjectAttr Builtin.Getset_descriptor
end L2
namespace L2
open PySem PySem.Spec PyProof.Rows
variable {P:Program} {w:World} {H:Hp} {C f a:Addr} {X:Cx} {k:Nat} {fd:FuncData} {ps:List Str} {sp:Sp} {iz:List V} {E:XK} {x fl:Str} {pos apos:Pos} {e o:Expr} {ta te:TE} {t:TA} {K:W.Frag} {st:Stmt} {σ:St} {Q:VK} {D:Ends} {kvs:List (Key × V)} {pins:List (Addr × Obj)} {s:Shared}
def ExcO (C ea:Addr) (dc:Option Addr) (h:Heap):Prop:=∃ t,h.get? ea = some { cls:=.ref C,dict:=dc,data:=.fields #[.ref t,.none,.none,.none,.bool false,.none] }
theorem ExcO.ok {h:Heap} {ea:Addr} {dc:Option Addr} (x:ExcO C ea dc h):ObjOk P w H h ea (.ext (ExcO C ea dc)) :=
 ⟨x,let ⟨_,e⟩:=x;⟨_,e⟩,fun _ _ y k=>let ⟨t,e⟩:=y;⟨t,k _ e⟩⟩
section
variable {CX:E9} {ds:List Value} {EX:St->XK} {m:Str} {p pos':Pos} {value:Expr} {es:List Expr} {tv:TE} {pl:Sem Bool}
theorem dJ (he:BE X e ta) (hb:attributeBase e fl X.env (eval e X.env) = eval e X.env:=by rfl):BE X (.Attribute e fl pos) (JU X.K ta fl):=⟨Lb he.h hb⟩
theorem uy (ha:BE X o ta) (hv:BE X value tv) (hs:swapsWith value (some (.Attribute o fl pos')) pos.line X.env = pure false:=by rfl):BS X (.Assign [.Attribute o fl pos'] value pos) (Kb X.K ta tv fl):=⟨KZ ha.h hv.h hs⟩
theorem pJ (c : Cls X.K C) (hm : Meth X.K C m f) (F : FnOk X.prog X.w X.K X.mg X.base CX k f fd ps sp) (hx : Passes CX X E) (hb : Binds X.K fd ps ds) (hd : Vals iz ds) (hr : Room k X.A) (ho : BE X o ta) (ha : BA X (e :: es) t)
    (ht:eval (.Call (.Attribute o m apos) (e :: es) [] pos) X.env = (do
     let ov <- eval o X.env
     standAt apos.atName
     let (f,first) <- holding [ov] (getMethod ov m pl)
     callWith pos f first (backTo pos (starEach (e :: es) X.env)) (backToKw pos (keywordEach [] X.env))):=by rfl) (h1:isStar e = false:=by rfl) (h2:noStar es = true:=by rfl) :
    BE X (.Call (.Attribute o m apos) (e :: es) [] pos) (dm C m sp iz E ta t):=⟨GJ ho.h c hm F hr hb hd hx ha.h (aG h1) (bL h2) ht⟩
theorem yI (c : Cls X.K C) (hm : Meth X.K C m f) (F : FnOk X.prog X.w X.K X.mg X.base CX k f fd ps sp) (hx : Passes CX X E) (hb : Binds X.K fd ps ds) (hd : Vals iz ds) (hr : Room k X.A) (ho : BE X o ta)
    (ht:eval (.Call (.Attribute o m apos) [] [] pos) X.env = (do
     let ov <- eval o X.env
     standAt apos.atName
     let (f,first) <- holding [ov] (getMethod ov m pl)
     callWith pos f first (backTo pos (starEach [] X.env)) (backToKw pos (keywordEach [] X.env))):=by rfl) :
    BE X (.Call (.Attribute o m apos) [] [] pos) (dm C m sp iz E ta gy):=⟨Dz ho.h c hm F hr hb hd hx ht⟩
theorem My (M : Mk X.K C f) (F : FnOk X.prog X.w X.K X.mg X.base CX k f fd ps sp) (hx : Passes CX X E) (hb : Binds X.K fd ps ds) (hd : Vals iz ds) (hr : Room (k + 1) X.A) (hm : X.mg x = some (.ref C)) (ha : BA X (e :: es) t)
    (hg:Gl X x:=by rfl) (iw:(x == ("__debug__":Str)) = false:=by decide) (h1:isStar e = false:=by rfl) (h2:noStar es = true:=by rfl):BE X (.Call (.Name x p) (e :: es) [] pos) (vf C sp iz E t):=⟨GK M F hr hg hm hb hd hx ha.h iw (aG h1) (bL h2)⟩
theorem O2 (M : Mk X.K C f) (F : FnOk X.prog X.w X.K X.mg X.base CX k f fd ps sp) (hx : Passes CX X E) (hb : Binds X.K fd ps ds) (hd : Vals iz ds) (hr : Room (k + 1) X.A) (hm : X.mg x = some (.ref C))
    (hg:Gl X x:=by rfl) (iw:(x == ("__debug__":Str)) = false:=by decide):BE X (.Call (.Name x p) [] [] pos) (vf C sp iz E gy):=⟨DA M F hr hg hm hb hd hx iw⟩
end
structure FunD (K:W.Frag) (x qual:Str) (st:Stmt) (dV:Value) (f:Addr) (fd:FuncData):Prop where
 ex:∃ oc od kV doc pm an aT ct yl,fd = W.fnOf x qual (cD st) (aS st) (ab st) dV kV doc pm an aT ct/\K.lookup f = some { cls:=oc,dict:=od,data:=.func fd,slots:=yl }/\W.codeIn K aT qual = true
 kp:W.keepIn K (.ref f) = true
section
variable {mg:Str->Option Value} {base:Heap}
theorem FunD.okB {qual : Str} {dV : Value} {N : List Str} (F : FunD K x qual st dV f fd) (S : ao N ps (ab st)) (len : ∀ vs H Q E, sp vs H Q E -> vs.length = ps.length)
    (du:∀ (aT:Value) (A:Around) (outer:List Env) (s:Shared) (H:Hp) (vs:List V) (Q:VK) (E:XK),Room k (A.deeper (envOfC qual (ab st) s.heap.objs.size f aT))->sp vs H Q E ->
     ∃ t,BD (gc bR P w K mg base N qual (ab st) f aT A outer s H E) (aS st) t/\t { nx:=fun _ H'=>Q .non H',rt:=Q } (start N vs) H):FnOk P w K mg base bR (k + 1) f fd ps sp:=by
 obtain ⟨oc,od,kV,doc,pm,an,aT,ct,yl,rfl,lk,jF⟩:=F.ex;refine Ep lk jF S len fun A outer s H vs Q E hr we=>?_
 obtain ⟨t,h,q⟩:=du aT A outer s H vs Q E hr we;exact ⟨t,h.h,q⟩
theorem aD {us ds:List Value} {n:Nat} (h:(us ++ ds).length = ps.length) (hd:ds.length + n = ps.length):us.length = n:=by
 rw [List.length_append] at h;omega
def gi (K:W.Frag) (fd:FuncData) (ps:List Str) (iz:List V):Prop:=∃ ds,Vals iz ds/\Binds K fd ps ds
end
section
variable {i f value:Expr} {td ty tx tv:TE} {pos' cu:Pos}
theorem zK:BE X (.Dict [] [] pos) xO:=⟨DC⟩
theorem zG (hu:X.A.units + 1 < cLine) (ho:BE X o td) (hi:BE X i ty) (hv:BE X value tv) (hs:swapsWith value (some (.Subscript o i pos')) pos.line X.env = pure false:=by rfl):BS X (.Assign [.Subscript o i pos'] value pos) (vx td ty tv):=⟨zb hu ho.h hi.h hv.h hs⟩
theorem uY {κ:Type} [DecidableEq κ] {k:κ} {v:V}:∀ {kvs:List (κ × V)},(kvs.map (·.1)).Nodup->(k,v) ∈ kvs->dC kvs k = some v
 | q :: kvs,hn,hm=>by
  rw [List.map_cons,List.nodup_cons] at hn
  rcases List.mem_cons.mp hm with e | e
  ·subst e;exact kg rfl
  ·rw [kh (fun z=>hn.1 (by rw [z];exact List.mem_map.mpr ⟨_,e,rfl⟩))]
   exact uY hn.2 e
instance YM:aV (JU K ta fl σ H Q) (ta σ H fun x H1=>∃ a C dx fs v,x = .ref a/\H1 a = some (.ins C dx fs)/\Cls K C/\NoAttr K C fl/\fs.lookup fl = some v/\Q v H1):=⟨id⟩
instance YL:aV (Kb K ta tv fl D σ H) (tv σ H fun y H1=>ta σ H1 fun x H2=>∃ a C dx fs,x = .ref a/\H2 a = some (.ins C dx fs)/\Cls K C/\NoAttr K C fl/\fs.length < 1000/\D.nx σ (upd H2 a (.ins C dx (iE fl y fs)))):=⟨id⟩
instance YK {m:Str}:aV (dm C m sp iz E ta t σ H Q) (ta σ H fun x H1=>∃ a dx fs,x = .ref a/\H1 a = some (.ins C dx fs)/\fs.lookup m = none/\t σ H1 fun vs H2=>sp (x :: (vs ++ iz)) H2 Q E):=⟨id⟩
instance YJ:aV (vf C sp iz E t σ H Q) (t σ H fun vs H1=>∀ x dx,H1 x = none->H1 dx = none->dx ≠ x->sp (.ref x :: (vs ++ iz)) (upd (upd H1 dx (.own x)) x (.ins C dx [])) (fun v H2=>v = .non/\Q (.ref x) H2) E):=⟨id⟩
instance YI:aV (xO σ H Q) (∀ p,H p = none->Q (.ref p) (upd H p (.dK []))):=⟨id⟩
instance YH:aV (vx td ty tv D σ H) (tv σ H fun v H1=>td σ H1 fun x H2=>ty σ H2 fun y H3=>∃ a H4,x = .ref a/\DPut H3 a y v H4/\D.nx σ H4):=⟨id⟩
end
section
theorem yQ:∀ {xs:List V} {us:List Value},xs.length = us.length->(∀ (i:Nat) v u,xs[i]? = some v->us[i]? = some u->RelV v u)->Vals xs us
 | [],[],_,_=>.nil
 | x :: xs,u :: us,hl,h=>.cons (h 0 x u rfl rfl) (yQ (Nat.succ.inj hl) fun i v u' hv hu=>h (i + 1) v u' hv hu)
end
section
variable {i:Expr} {td ty:TE}
theorem EY (hu:X.A.units + 1 < cLine) (ho:BE X o td) (hi:BE X i ty) (hs:IG i):BE X (.Subscript o i pos) (vg td ty):=⟨zf hu ho.h hi.h hs⟩
def y9:R2:=fun x y H Q=>∃ z a kvs,x = .str z/\y = .ref a/\H a = some (.dK kvs)/\Q (.bl (!(dC kvs (.inr z)).isSome)) H
theorem rD (hu:X.A.units + 100 < cLine):OpR X (compareOp .NotIn) y9:=by
 intro pins s σ H x y v u Q I rx ry h;obtain ⟨z,a,kvs,rfl,rfl,ha,q⟩:=h
 cases (show u = Value.ref a from ry)
 exact Ik (y:=kV (.inr z)) (by omega) I (DGet.k ha) rx fun s' I'=>⟨.bl _,H,I',rfl,q⟩
theorem rq {z:Str} (h1:H a = some (.dK kvs)) (h:Q (.bl (!(dC kvs (.inr z)).isSome)) H):y9 (.str z) (.ref a) H Q:=⟨z,a,kvs,rfl,rfl,h1,h⟩
instance YG:aV (vg td ty σ H Q) (td σ H fun x H1=>ty σ H1 fun y H2=>∃ a v,x = .ref a/\DGet H2 a y (some v)/\Q v H2):=⟨id⟩
end
section
variable {to:TE} {cu:Pos}
def ViewO (r d:Addr) (h:Heap):Prop:=h.IsValuesView r d
theorem ViewO.ok {h:Heap} {r d:Addr} (x:ViewO r d h):ObjOk P w H h r (.ext (ViewO r d)) :=
 ⟨x,let ⟨ob,e,_⟩:=x;⟨ob,e⟩,fun _ _ y k=>let ⟨ob,e,c,dd⟩:=y;⟨ob,k _ e,c,dd⟩⟩
def yi:V->List V->Hp->VK->Prop:=fun x vs H Q=>∃ a kvs,x = .ref a/\vs = []/\H a = some (.dK kvs)/\∀ r H1,H r = none->Same H H1->H1 r = some (.ext (ViewO r a))->Q (.ref r) H1
theorem AG:O9 X "dict.values" yi:=by
 intro pins s σ H x vs v us Q I rx rv h;obtain ⟨a,kvs,rfl,rfl,ha,q⟩:=h
 cases (show v = Value.ref a from rx)
 have V8:=rv.zero;subst V8;obtain ⟨_,ea,v1,r1,d1⟩:=EA I.hok ha;refine call_meetsIn F.slot_dict_values d1.typeIs F.entry_dict_values (F.args_dict_values_1 _) (meets_dict_values (ba X.prog X.w) a ea) ⟨⟨v1,d1⟩,?_⟩;have hn:H s.heap.objs.size = none:=I.hok.fresh (Nat.le_refl _);exact ⟨.ref s.heap.objs.size,_,I.laid (a:=s.heap.objs.size) (o:=.ext (ViewO s.heap.objs.size a)) (t':=s.toks) (fun b u e=>Heap.get?_push_of_some _ e) (Nat.le_refl _) (ViewO.ok ⟨_,Heap.get?_push_size _ rfl,rfl,rfl⟩),rfl,q _ _ hn (aE hn) ak⟩
theorem lV (ho : BE X o to) (gK : attributeBase o "values" X.env (eval o X.env) = eval o X.env := by rfl) (gJ : (apos.endLine == cu.line) = true := by rfl) :
    BE X (.Call (.Attribute o "values" apos) [] [] cu) (JW X.K "dict" yi to) :=
 ⟨Lc F.plainAttrs_dict F.slot_dict_values F.type_dict_values AG ho.h gK gJ⟩
theorem yg {p:Addr} {P:Prop} (e:H p = some (.dK kvs)) (h:P):JK K "dict" (.ref p) H/\P:=⟨.inr (.inr (.inl ⟨rfl,.inl ⟨kvs,e⟩⟩)),h⟩
theorem lx (h1:H a = some (.dK kvs)) (q:∀ r H1,H r = none->Same H H1->H1 r = some (.ext (ViewO r a))->Q (.ref r) H1):yi (.ref a) [] H Q:=⟨a,kvs,rfl,rfl,h1,q⟩
def Dh:List V->Hp->VK->Prop:=fun xs H Q=>∃ (r a:Addr) (kvs:List (Key × V)),xs = [.ref r]/\H r = some (.ext (ViewO r a))/\H a = some (.dK kvs)/\kvs.length <= 1000/\∀ p H1,H p = none->Same H H1->H1 p = some (.lst (kvs.map (·.2)))->Q (.ref p) H1
theorem D2:∀ {kvs:List (Key × V)} {v1:List (Key × Value)} {i:Nat} {q:Key × V} {k:Key} {u:Value},KV kvs v1->kvs[i]? = some q->v1[i]? = some (k,u)->RelV q.2 u
 | _,_,i,_,_,_,.nil,e,_=>by simp at e
 | _,_,0,_,_,_,.cons h _,e,e2=>by simp at e e2;subst e;rw [e2] at h;exact h.2
 | _,_,i + 1,_,_,_,.cons _ t,e,e2=>D2 (i:=i) t (by simpa using e) (by simpa using e2)
theorem zT {v1:List (Key × Value)} {acc:Array Value} (r:KV kvs v1) (h:ItemsOf (fun i v=>∃ k,v1[i]? = some (k,v)) acc v1.length):Vals (kvs.map (·.2)) acc.toList:=by
 have hl:=r.length;obtain ⟨hs,hi⟩:=h;refine yQ (by rw [List.length_map];have:=Array.length_toList (xs:=acc);omega) fun i v u hv hu=>?_
 rw [Array.getElem?_toList] at hu;obtain ⟨k,h1⟩:=hi i u hu;rw [List.getElem?_map] at hv;obtain ⟨q,hq,rfl⟩:=Option.map_eq_some_iff.mp hv;exact D2 r hq h1
theorem zF (hc:X.calm = true:=by rfl):bq X (.type "list") Dh:=by
 intro pins s σ H xs us Q I r h;obtain ⟨rv,a,kvs,rfl,hr,ha,hl,q⟩:=h;obtain ⟨u,rfl,ru⟩:=vals1 r
 cases (show u = Value.ref rv from ru)
 obtain ⟨_,ea,v1,r1,d1⟩:=EA I.hok ha;obtain ⟨ep,WY⟩:=d1.dictAt;have Q3:s.heap.IsValuesView rv a:=(I.hok rv _ hr).1;have hz:sizeLine = 16777216:=sizeLine_eq;have hl1:=r1.length;refine W.kdl_call (W.kdl_values (knd:=ba X.prog X.w) (kvs:=v1) (ep:=ep)) (I.ok.hd hc) ⟨Q3,WY⟩ (by omega) fun h' tk acc c kp hD kL=>?_
 have hn:H s.heap.objs.size = none:=I.hok.fresh (Nat.le_refl _);refine ⟨.ref s.heap.objs.size,_,I.laid (a:=s.heap.objs.size) (o:=.lst (kvs.map (·.2))) (t':=tk) kp (Nat.le_refl _) ⟨by rw [List.length_map];omega,acc.toList,c,zT r1 kL,?_⟩,rfl,q _ _ hn (aE hn) ak⟩;rw [Array.toArray_toList];exact hD
theorem vA {r:Addr} (h1:H r = some (.ext (ViewO r a))) (h2:H a = some (.dK kvs)) (h3:kvs.length <= 1000) (q:∀ p H1,H p = none->Same H H1->H1 p = some (.lst (kvs.map (·.2)))->Q (.ref p) H1):Dh [.ref r] H Q:=⟨r,a,kvs,rfl,h1,h2,h3,q⟩
end
section
def P8 (a:Addr) (o:Obj) (kvs:List (Key × V)):It :=
 ⟨fun i H=>H a = some (.frz o (.dK kvs))/\i < kvs.length,fun i H x H'=>H' = H/\∃ k,kvs[i]? = some (k,x),fun i H=>H a = some (.frz o (.dK kvs))/\kvs.length <= i⟩
theorem zU {tg:Expr} (a it:Addr) (o:Obj) (kvs:List (Key × V)) (es:Array DictEntry) (ep:Nat) (cC:o.data = .dict es ep):Turn P w K tg (P8 a o kvs) [it] it (fun i h=>h.IsValIter it a i kvs.length ep) where
 mem:=by simp
 obj:=fun i h st b hb=>by
  have e:b = it:=by simpa using hb
  subst e;obtain ⟨o,e,c,d⟩:=st;exact ⟨o,e,fun v z=>by rw [d] at z;cases z⟩
 keep:=fun i h h' st k=>st.at fun o e=>k it (by simp) o e
 item:=by
  intro X hP hw hK hc i pins s σ H E I hf st hg;subst hP hw hK;obtain ⟨ha,hi⟩:=hg;obtain ⟨ho,_,_,xs,r,o',dA,Mi,h1,h2,h3,h4,h5,h6⟩:=I.hok a _ ha;rw [ho] at h1
  cases h1
  rw [cC] at h3
  cases h3
  obtain ⟨f0,f1,f2,f3,f4,f5⟩:=hf it (by simp);have hlen:=KV.length r;have Ti:i < xs.length:=by omega
  rw [hlen] at st;refine wpAny_pyNext_values_item (knd:=ba X.prog X.w) st ⟨o,es,ho,h2,cC,h4,h5,h6⟩ (k:=xs[i].1) (v:=xs[i].2) (List.getElem?_eq_getElem Ti) fun h' aO sb=>?_
  have I1:Inv X pins σ H { s with heap:=h' }:=I.turned (t':=s.toks) (fun b o hb e=>(sb.2 b hb).trans e) f0 f1 f3 f4 f5
  have rv:RelV kvs[i].2 xs[i].2:=D2 r (List.getElem?_eq_getElem hi) (List.getElem?_eq_getElem Ti);obtain ⟨oi,e1,e2,e3⟩:=id aO;rw [<- hlen] at aO;exact ⟨_,rfl,wx (s:={ s with heap:=h' }) e1 e2 e3 (by decide) ⟨kvs[i].2,H,I1,rv,⟨rfl,kvs[i].1,List.getElem?_eq_getElem hi⟩,aO,fun b hb=>(hf b hb).1⟩⟩
 done:=by
  intro X hP hw hK hc i pins s σ H E I hf st hg;subst hP hw hK;obtain ⟨ha,hi⟩:=hg;obtain ⟨ho,_,_,xs,r,o',dA,Mi,h1,h2,h3,h4,h5,h6⟩:=I.hok a _ ha;rw [ho] at h1
  cases h1
  rw [cC] at h3
  cases h3
  obtain ⟨f0,f1,f2,f3,f4,f5⟩:=hf it (by simp);have hlen:=KV.length r;rw [hlen] at st;exact wpAny_pyNext_values_end (knd:=ba X.prog X.w) (I.ok.hd hc) st ⟨o,es,ho,h2,cC,h4,h5,h6⟩ (List.getElem?_eq_none (by omega)) fun h' eb=>⟨rfl,I.turned (t':=s.toks) (fun b o hb e=>eb b o hb e) f0 f1 f3 f4 f5⟩
 self:=fun _ _ _ _ _ st h=>wpAny_pyIter_valiter st h
def Jo (te:TE):TI:=fun σ H R=>te σ H fun x H1=>∃ r a kvs,x = .ref r/\H1 r = some (.ext (ViewO r a))/\H1 a = some (.dK kvs)/\∀ o,R (P8 a o kvs) (upd H1 a (.frz o (.dK kvs)))
theorem Iy {tg:Expr} (h:BE X e te):BI X tg e (Jo te):=⟨by
 intro pins s σ H R I q;refine bw (h.h pins s σ H _ I q) fun u s1 ⟨x,H1,I1,rx,r,a,kvs,ex,hr,ha,q⟩=>?_
 subst ex
 cases (show u = Value.ref r from rx)
 obtain ⟨o,ho,I2⟩:=I1.freezeK ha;obtain ⟨VZ,hm,xs,rk,o',es,ep,h1,h2,h3,h4,h5,h6⟩:=I1.hok a _ ha;rw [ho] at h1
 cases h1
 have Q3:s1.heap.IsValuesView r a:=(I1.hok r _ hr).1;have hlen:=KV.length rk;refine wpAny_pyIter_values (knd:=ba X.prog X.w) Q3 ⟨o,es,ho,h2,h3,h4,h5,h6⟩ ?_;have hn:upd H1 a (.frz o (.dK kvs)) s1.heap.objs.size = none:=I2.hok.fresh (Nat.le_refl _);refine ⟨s1.heap.objs.size,[s1.heap.objs.size],_,_,_,rfl,I2.kept (t':=s1.toks) (fun b u e=>Heap.get?_push_of_some _ e),zU a _ o kvs es ep h3,?_,fun b hb=>?_,q o⟩
 ·rw [hlen];exact ⟨_,Heap.get?_push_size _ rfl,rfl,rfl⟩
 ·rw [List.mem_singleton.mp hb];exact I2.fpOk (Nat.le_refl _) hn⟩
instance YN {F:It->Hp->Prop}:aV (Jo te σ H F) (te σ H fun x H1=>∃ r a kvs,x = .ref r/\H1 r = some (.ext (ViewO r a))/\H1 a = some (.dK kvs)/\∀ o,F (P8 a o kvs) (upd H1 a (.frz o (.dK kvs)))):=⟨id⟩
theorem ON {o : Obj} {g : TG} {tb : TS} (Pv : Nat -> St -> Hp -> Prop) (h0 : Pv 0 σ H) (hl : ∀ i σ H, Pv i σ H -> H a = some (.frz o (.dK kvs)))
    (hs:∀ i k v σ H,kvs[i]? = some (k,v)->Pv i σ H->g v σ H fun σ2 H2=>tb { nx:=Pv (i + 1),rt:=D.rt,ct:=Pv (i + 1),bk:=D.nx } σ2 H2) (hd:∀ σ H,Pv kvs.length σ H->D.nx σ H):xq (P8 a o kvs) g tb D σ H:=by
 refine ⟨fun i m σ H=>m = kvs.length - i/\i <= kvs.length/\Pv i σ H,⟨kvs.length,by simp,Nat.zero_le _,h0⟩,?_⟩
 rintro i m σ H ⟨rfl,hi,p⟩
 by_cases eR:i < kvs.length
 ·refine .inr ⟨⟨hl i σ H p,eR⟩,Pv (i + 1),fun σ' H' p'=>⟨kvs.length - (i + 1),by omega,rfl,eR,p'⟩,fun x H' y=>?_⟩
  obtain ⟨rfl,k,y⟩:=y;exact hs i k x σ _ y p
 ·have e:i = kvs.length:=by omega
  subst e;exact .inl ⟨⟨hl _ σ H p,Nat.le_refl _⟩,hd σ H p⟩
end
section
theorem Inv.thaw {o:Obj} {x:HO} (I:Inv X pins σ H s) (e:H a = some (.frz o x)) (n:∀ o u,X.H₀ a ≠ some (.frz o u)):Inv X pins σ (upd H a x) s:=by
 have nn:∀ {b:Addr},H b = none->upd H a x b = none:=fun {b} h=>by rw [aj (fun z=>by rw [z,e] at h;cases h)];exact h
 have ns:∀ {b:Addr} {u:HO},H b = some u->(∀ o' x',u ≠ .frz o' x')->upd H a x b = some u:=fun {b u} h k=>by rw [aj (fun z=>by rw [z,e] at h;cases h;exact k _ _ rfl)];exact h
 refine { I with base:={ I.base with free:=fun b ob q m hx=>nn (I.base.free b ob q m hx),tups:=fun b xs q=>ns (I.base.tups b xs q) (fun _ _ z=>by cases z),frzs:=fun b ob u q=>?_,tbls:=fun b ps q=>?_ },free:=nn I.free,freeC:=fun y c q=>nn (I.freeC y c q),pin:=fun p hp=>?_,hok:=fun b u q=>?_ }
 ·rw [aj (fun z=>by rw [z] at q;exact n _ _ q)];exact I.base.frzs b ob u q
 ·obtain ⟨more,h⟩:=I.base.tbls b ps q;exact ⟨more,ns h (fun _ _ z=>by cases z)⟩
 ·obtain ⟨p1,p2,p3⟩:=I.pin p hp;exact ⟨p1,nn p2,p3⟩
 ·have st:∀ {c:Addr} {v:HO},ObjOk X.prog X.w H s.heap c v->ObjOk X.prog X.w (upd H a x) s.heap c v:=fun {c v} h=>h.stay (fun d w _ q=>q) (fun d r=>ns r (fun _ _ z=>by cases z)) (fun d xs r=>ns r (fun _ _ z=>by cases z))
  by_cases z:b = a
  ·subst z;rw [ak] at q
   cases q
   exact st (I.hok b _ e).2
  ·rw [aj z] at q;exact st (I.hok b u q)
def Thw (H₀ H':Hp) (R:Hp->Prop):Prop:=R H' \/ ∃ a o x,H' a = some (.frz o x)/\(∀ o u,H₀ a ≠ some (.frz o u))/\R (upd H' a x)
def IL (H₀:Hp) (t:TS):TS:=fun D σ H=>t { nx:=fun σ' H'=>Thw H₀ H' (D.nx σ'),rt:=fun v H'=>Thw H₀ H' (D.rt v),bk:=D.bk,ct:=D.ct } σ H
theorem Thw.go {H':Hp} {R:Hp->Prop} (I:Inv X pins σ H' s) (h:Thw X.H₀ H' R):∃ H2,Inv X pins σ H2 s/\R H2 :=
 h.elim (fun r=>⟨H',I,r⟩) fun ⟨_,_,_,e,n,r⟩=>⟨_,I.thaw e n,r⟩
theorem Fz {f:Flow} {s':Shared} (h:SP X pins { nx:=fun σ' H'=>Thw X.H₀ H' (D.nx σ'),rt:=fun v H'=>Thw X.H₀ H' (D.rt v),bk:=D.bk,ct:=D.ct } f s'):SP X pins D f s':=by
 cases f with
 | next =>
  obtain ⟨σ',H',I,q⟩:=h;obtain ⟨H2,I2,r⟩:=Thw.go I q;exact ⟨σ',H2,I2,r⟩
 | brk=>exact h
 | cont=>exact h
 | ret u =>
  obtain ⟨v,σ',H',I,rv,q⟩:=h;obtain ⟨H2,I2,r⟩:=Thw.go I q;exact ⟨v,σ',H2,I2,rv,r⟩
theorem Iu {t:TS} (h:BS X st t):BS X st (IL X.H₀ t):=⟨fun pins s σ H D I q=>bw (h.h pins s σ H _ I q) fun _ _ x=>Fz x⟩
instance YQ {H₀:Hp} {t:TS}:aV (IL H₀ t D σ H) (t { nx:=fun σ' H'=>Thw H₀ H' (D.nx σ'),rt:=fun v H'=>Thw H₀ H' (D.rt v),bk:=D.bk,ct:=D.ct } σ H):=⟨id⟩
end
section
variable {p:Pos} {t1 t2:TE}
structure Su (K:W.Frag) (C:Addr):Prop where
 makes:W.makesIn K C = true
 init:W.findIn K (.ref C) "__init__" = some (some (.builtin "object.__init__"))
 kp:W.keepIn K (.ref C) = true
def JQ (C:Addr):TE:=fun σ H Q=>∀ x dx,H x = none->H dx = none->dx ≠ x->Q (.ref x) (upd (upd H dx (.own x)) x (.ins C dx []))
theorem K9 (M:Su X.K C) (hm:X.mg x = some (.ref C)) (hg:Gl X x:=by rfl) (iw:(x == ("__debug__":Str)) = false:=by decide):PE X (.Call (.Name x p) [] [] pos) (JQ C):=by
 intro pins s σ H Q I h;refine wpAny_Call_Name_kw (kG I hg hm ?_ iw);refine W.callWith_K0 I.kIn M.kp (wpAny_call (AK I.kIn M.makes M.init (fun self=>W.Looks.of_pure (W.oi_bind self)) ?_))
 have hq:=h (s.heap.objs.size + 1) s.heap.objs.size (I.hok.fresh (Nat.le_succ _)) (I.hok.fresh (Nat.le_refl _)) (Nat.ne_of_lt (Nat.lt_succ_self _));have I2:=Inv.made (C:=C) I;have Y:=W.makes_of (M:=model X.prog X.w) I.kIn M.makes;have g1:((s.heap.push W.emptyDict).push (W.instObj C s.heap.objs.size)).get? (s.heap.objs.size + 1) = some (W.instObj C s.heap.objs.size):=by
  have:=Heap.get?_push_size (s.heap.push W.emptyDict) (o:=W.instObj C s.heap.objs.size) rfl
  rwa [Heap.size_push] at this
 have k1:W.Looks (model X.prog X.w) ((s.heap.push W.emptyDict).push (W.instObj C s.heap.objs.size)) (typeOf (.ref (s.heap.objs.size + 1))) (.ref C):=(W.Looks.ld g1).andThen .now;have k2:W.Looks (model X.prog X.w) ((s.heap.push W.emptyDict).push (W.instObj C s.heap.objs.size)) (isInstance (.ref (s.heap.objs.size + 1)) (.type "object")) true:=k1.andThen (Y.top.keeps fun b o z=>Heap.get?_push_of_some _ (Heap.get?_push_of_some _ z))
 refine codeAny_call_builtin W.oi_plain W.entry_oi (@W.check_slot (model X.prog X.w) _ _ _ "object.__init__" "object" "__init__" (.ref (s.heap.objs.size + 1)) [] [] _ W.oi_kind W.oi_split k2 (W.oi_args (.ref (s.heap.objs.size + 1))) ?_);rw [W.oi_run];exact wpAny_pure (And.intro rfl ⟨V.ref (s.heap.objs.size + 1),_,I2,rfl,hq⟩)
theorem O1 (M:Su X.K C) (hm:X.mg x = some (.ref C)) (hg:Gl X x:=by rfl) (iw:(x == ("__debug__":Str)) = false:=by decide):BE X (.Call (.Name x p) [] [] pos) (JQ C):=⟨K9 M hm hg iw⟩
instance Y1:aV (JQ C σ H Q) (∀ x dx,H x = none->H dx = none->dx ≠ x->Q (.ref x) (upd (upd H dx (.own x)) x (.ins C dx []))):=⟨id⟩
def sP (t1 t2:TE):TE:=fun σ H Q=>t1 σ H Q \/ t2 σ H Q
theorem jN (h1:BE X e t1) (h2:BE X e t2):BE X e (sP t1 t2):=⟨fun pins s σ H Q I h=>h.elim (h1.h pins s σ H Q I) (h2.h pins s σ H Q I)⟩
theorem O4 {y z : Str} {sf : Stmt} {es : List Expr} (N : Fn X.K X.mg z sf ps f fd) (hy : X.mg y = some (.ref f)) (G : FnOk X.prog X.w X.K X.mg X.base bR k f fd ps sp) (hr : Room k X.A) (ha : BA X (e :: es) t) (hg : Gl X y := by rfl) (iw : (y == ("__debug__" : Str)) = false := by decide) (h1 : isStar e = false := by rfl) (h2 : noStar es = true := by rfl) :
    BE X (.Call (.Name y p) (e :: es) [] pos) (l9 sp [] E0 t):=⟨zg G hr hg hy N.fu.kp N.bd .nil aR ha.h iw (aG h1) (bL h2)⟩
def Nx (K:W.Frag):List V->Hp->VK->Prop:=fun xs H Q=>∃ x C dx fs P b,xs = [.ref x,.ref P]/\H x = some (.ins C dx fs)/\ClsX K C/\W.kitOne K (.ref C) (.ref P) = some b/\Q (.bl b) H
theorem OV:bq X (.builtin "isinstance") (Nx X.K):=by
 intro pins s σ H xs us Q I r h;obtain ⟨x,C,dx,fs,P,b,rfl,hx,c,hk,q⟩:=h;obtain ⟨u,w',rfl,ru,Ak⟩:=vals2 r
 cases (show u = Value.ref x from ru)
 cases (show w' = Value.ref P from Ak)
 have at_:OfCls s.heap x C:=by
  have z:=I.hok x _ hx;obtain ⟨_,_,_,ob,_⟩:=z;exact ⟨_,ob,rfl⟩
 exact W.kia_one c.kit I.kIn at_ hk (fun z=>nomatch z) fun tk=>⟨.bl b,H,I.tok tk,rfl,q⟩
end
section
variable {xs:List V} {j:Nat} {ix:List Nat} {tt:TT} {g:TG} {tb:TS}
theorem Ii (hp : H a = some (.lst xs) \/ H a = some (.tup xs)) (hj : σ[j]? = some (some (.ref a))) (Pv : Nat -> St -> Hp -> Prop) (h0 : Pv 0 σ H) (hl : ∀ i σ' H', Pv i σ' H' -> Same H H')
    (hs:∀ i x σ H,i < xs.length->xs[i]? = some x->Pv i σ H->g x σ H fun σ2 H2=>tb { nx:=Pv (i + 1),rt:=D.rt,ct:=Pv (i + 1),bk:=D.nx } σ2 H2) (hd:∀ σ H,Pv xs.length σ H->D.nx σ H):LN K (cn j) σ H fun J H1=>xq J g tb D σ H1:=by
 rcases hp with hp | hp
 ·exact .inl ⟨_,hj,a,rfl,⟨_,SqL.of hp⟩,forL Pv h0 (fun i σ' H' p=>SqL.of (hl i σ' H' p _ _ hp)) hs hd⟩
 ·exact .inr ⟨_,hj,a,rfl,⟨_,SqT.of hp⟩,RZ Pv h0 (fun i σ' H' p=>SqT.of (hl i σ' H' p _ _ hp)) hs hd⟩
theorem HE (hp : H a = some (.lst xs) \/ H a = some (.tup xs)) (hj : σ[j]? = some (some (.ref a))) (W : Nat -> List V -> Hp -> Prop) (hz : xs.length <= sizeLine) (h0 : W 0 [] H) (hs : ∀ i ys H', W i ys H' -> Same H H' /\ ys.length <= i)
    (hE:∀ i v ys H',xs[i]? = some v->W i ys H'->tt (some v :: pick ix σ) H' fun b H4=>if b = true then te (some v :: pick ix σ) H4 fun y H5=>W (i + 1) (ys ++ [y]) H5 else W (i + 1) ys H4)
    (hQ:∀ ys p H' H1,W xs.length ys H'->H' p = none->Same H' H1->H1 p = some (.lst ys)->Q (.ref p) H1):LN K (cn j) σ H fun J H1=>MD J ix σ tt te Q H1:=by
 rcases hp with hp | hp
 ·exact .inl ⟨_,hj,a,rfl,⟨_,SqL.of hp⟩,NY W hz h0 (fun i ys H' w=>⟨SqL.of ((hs i ys H' w).1 _ _ hp),(hs i ys H' w).2⟩) hE hQ⟩
 ·exact .inr ⟨_,hj,a,rfl,⟨_,SqT.of hp⟩,Jk W hz h0 (fun i ys H' w=>⟨SqT.of ((hs i ys H' w).1 _ _ hp),(hs i ys H' w).2⟩) hE hQ⟩
end
theorem Room.m {A:Around} {j:Nat} (h:Room k A) (l:j <= k:=by first | decide | omega):Room j A:=h.mono l
theorem dE {N:List Str} {sc:Scope} (h1:sc.kind = .function:=by rfl) (h2:sc.isCoroutine = false:=by rfl) (h3:sc.isGenerator = false:=by rfl) (h4:N.Nodup:=by decide +kernel) (h5:N.take ps.length = ps:=by rfl) (h6:∀ x ∈ ps,sc.names.lookup x = some .local \/ sc.names.lookup x = some .cell:=by decide +kernel) (h7:∀ y ∈ sc.names,y.2 ≠ .free:=by decide +kernel):ao N ps sc:=⟨h1,h2,h3,h4,h5,h6,h7⟩
theorem funD_mk {q:Str} {dV oc kV doc pm aT ct:Value} {od an:Option Addr} {yl:Array (Option Value)} (l:K.lookup f = some ⟨oc,od,.func (W.fnOf x q (cD st) (aS st) (ab st) dV kV doc pm an aT ct),yl⟩) (c:W.codeIn K aT q = true) (k:W.keepIn K (.ref f) = true):FunD K x q st dV f (W.fnOf x q (cD st) (aS st) (ab st) dV kV doc pm an aT ct):=⟨⟨_,_,_,_,_,_,_,_,_,rfl,l,c⟩,k⟩
end L2
namespace T60
open PySem L2
variable {P:Program} {w:World} {K:W.Frag} {mg:Str->Option Value} {base:Heap} {f a p p' t l r sv pw:Addr} {fd:FuncData} {H H' M8 F:Hp} {Q:VK} {E:XK} {i n:Nat} {x:HO} {m j sz:Int} {v:V} {σ:St} {ws:List Str} {e:Ent} {κ:Type} {o:Obj} {xs:List V} {es fs:List Ent} {z lo:Str} {S:List Addr} {q:Str × Addr × List Ent} {dV:Value}
abbrev qe:Addr:=373
abbrev aB:Addr:=57
abbrev tabs:List Addr:=[qe,aB]
def top (i:Nat):Stmt:=PySem.Challenge.pw_tierstore_k60_parts_tell.main.body.getD i (.Pass ⟨0,0,0,0⟩)
abbrev jh:Stmt:=top 3
abbrev gZ:Stmt:=top 4
abbrev gA:Stmt:=top 5
abbrev kq:Stmt:=top 6
abbrev ko:Stmt:=top 8
abbrev dS:Stmt:=top 13
abbrev dn:Stmt:=top 14
abbrev gY:Stmt:=top 15
abbrev eK:Stmt:=top 16
abbrev bf:Stmt:=top 18
abbrev kn:Stmt:=top 19
abbrev tj:Stmt:=top 20
abbrev jj:Stmt:=top 22
abbrev ji:Stmt:=top 26
abbrev cJ:Stmt:=top 34
abbrev dU:Stmt:=top 35
abbrev da:Stmt:=top 36
abbrev fq:Stmt:=top 37
abbrev dq:Stmt:=top 38
abbrev fz:Stmt:=top 39
abbrev dW:Stmt:=top 40
abbrev bX:Stmt:=top 41
abbrev aN:Stmt:=top 42
abbrev bS:Stmt:=top 44
abbrev bI:Stmt:=top 45
abbrev fw:Stmt:=top 46
abbrev dX:Stmt:=top 47
abbrev bY:Stmt:=top 49
abbrev fo:Stmt:=top 50
abbrev dt:Stmt:=top 51
abbrev nX:Stmt:=top 52
abbrev de:Stmt:=inClass (top 28) 0
abbrev fA:Stmt:=inClass (top 28) 1
abbrev fB:Stmt:=inClass (top 28) 2
abbrev cK:Stmt:=inClass (top 28) 3
abbrev dg:Stmt:=inClass (top 29) 0
abbrev cA:Stmt:=inClass (top 29) 1
abbrev df:Stmt:=inClass (top 29) 2
abbrev dh:Stmt:=inClass (top 29) 3
abbrev ck:Stmt:=inClass (top 29) 4
abbrev dZ:Stmt:=inClass (top 30) 0
abbrev cL:Stmt:=inClass (top 30) 1
abbrev dY:Stmt:=inClass (top 30) 2
abbrev d6:Stmt:=inClass (top 30) 3
abbrev cz:Stmt:=inClass (top 30) 4
abbrev fF:Stmt:=inClass (top 32) 0
abbrev g8:Stmt:=inClass (top 32) 1
abbrev fG:Stmt:=inClass (top 32) 2
abbrev fE:Stmt:=inClass (top 32) 5
abbrev cM:Stmt:=inClass (top 32) 6
structure Cs where
 Part:Addr
 InHand:Addr
 InRun:Addr
 Hand:Addr
 Part_called:Addr
 Part_says:Addr
 Part_find:Addr
 Part_between:Addr
 InHand_init:Addr
 InHand_called:Addr
 InHand_says:Addr
 InHand_find:Addr
 InHand_between:Addr
 InRun_init:Addr
 InRun_called:Addr
 InRun_says:Addr
 InRun_find:Addr
 InRun_between:Addr
 Hand_init:Addr
 Hand_put:Addr
 Hand_find:Addr
 Hand_rows:Addr
 Hand_between:Addr
variable {c:Cs}
structure Cl (K:W.Frag) (mg:Str->Option Value) (c:Cs):Prop where
 m_Part:mg "Part" = some (.ref c.Part)
 m_InHand:mg "InHand" = some (.ref c.InHand)
 m_InRun:mg "InRun" = some (.ref c.InRun)
 m_Hand:mg "Hand" = some (.ref c.Hand)
 na1:W.findIn K (.ref c.Hand) "kept" = some none
 na2:W.findIn K (.ref c.InHand) "hand" = some none
 na3:W.findIn K (.ref c.InRun) "number" = some none
 na4:W.findIn K (.ref c.InRun) "run" = some none
 xg_Part:W.plainGet K c.Part "__class__" = true
 xa_Part:W.findIn K (.ref c.Part) "__class__" = some (some (.builtin "object.__class__"))
 xm_Part:W.mroIn K c.Part (.type "object") = some true
 xk_Part:W.kitCls K (.ref c.Part) (.ref c.Part) = some true
 xo_Part:W.kitOne K (.ref c.Part) (.ref c.Part) = some true
 xg_InHand:W.plainGet K c.InHand "__class__" = true
 xa_InHand:W.findIn K (.ref c.InHand) "__class__" = some (some (.builtin "object.__class__"))
 xm_InHand:W.mroIn K c.InHand (.type "object") = some true
 xk_InHand:W.kitCls K (.ref c.InHand) (.ref c.InHand) = some true
 xo_InHand:W.kitOne K (.ref c.InHand) (.ref c.Part) = some true
 xg_InRun:W.plainGet K c.InRun "__class__" = true
 xa_InRun:W.findIn K (.ref c.InRun) "__class__" = some (some (.builtin "object.__class__"))
 xm_InRun:W.mroIn K c.InRun (.type "object") = some true
 xk_InRun:W.kitCls K (.ref c.InRun) (.ref c.InRun) = some true
 xo_InRun:W.kitOne K (.ref c.InRun) (.ref c.Part) = some true
 xn:W.specialIn K (.builtin "object.__class__") "__get__" = some (some (.builtin "getset_descriptor.__get__"))
 xt:W.takesIn K (.builtin "object.__class__") = some true
 i_Part_called:∃ fd dV,FunD K "called" "Part.called" de dV c.Part_called fd/\gi K fd ["self"] []
 me_Part_called:Meth K c.Part "called" c.Part_called
 i_Part_says:∃ fd dV,FunD K "says" "Part.says" fA dV c.Part_says fd/\gi K fd ["self","key"] []
 me_Part_says:Meth K c.Part "says" c.Part_says
 i_Part_find:∃ fd dV,FunD K "find" "Part.find" fB dV c.Part_find fd/\gi K fd ["self","key","stamp"] []
 me_Part_find:Meth K c.Part "find" c.Part_find
 i_Part_between:∃ fd dV,FunD K "between" "Part.between" cK dV c.Part_between fd/\gi K fd ["self","low","high"] []
 me_Part_between:Meth K c.Part "between" c.Part_between
 i_InHand_init:∃ fd dV,FunD K "__init__" "InHand.__init__" dg dV c.InHand_init fd/\gi K fd ["self","hand"] []
 mk_InHand:Mk K c.InHand c.InHand_init
 i_InHand_called:∃ fd dV,FunD K "called" "InHand.called" cA dV c.InHand_called fd/\gi K fd ["self"] []
 me_InHand_called:Meth K c.InHand "called" c.InHand_called
 i_InHand_says:∃ fd dV,FunD K "says" "InHand.says" df dV c.InHand_says fd/\gi K fd ["self","key"] []
 me_InHand_says:Meth K c.InHand "says" c.InHand_says
 i_InHand_find:∃ fd dV,FunD K "find" "InHand.find" dh dV c.InHand_find fd/\gi K fd ["self","key","stamp"] []
 me_InHand_find:Meth K c.InHand "find" c.InHand_find
 i_InHand_between:∃ fd dV,FunD K "between" "InHand.between" ck dV c.InHand_between fd/\gi K fd ["self","low","high"] []
 me_InHand_between:Meth K c.InHand "between" c.InHand_between
 i_InRun_init:∃ fd dV,FunD K "__init__" "InRun.__init__" dZ dV c.InRun_init fd/\gi K fd ["self","number","run"] []
 mk_InRun:Mk K c.InRun c.InRun_init
 i_InRun_called:∃ fd dV,FunD K "called" "InRun.called" cL dV c.InRun_called fd/\gi K fd ["self"] []
 me_InRun_called:Meth K c.InRun "called" c.InRun_called
 i_InRun_says:∃ fd dV,FunD K "says" "InRun.says" dY dV c.InRun_says fd/\gi K fd ["self","key"] []
 me_InRun_says:Meth K c.InRun "says" c.InRun_says
 i_InRun_find:∃ fd dV,FunD K "find" "InRun.find" d6 dV c.InRun_find fd/\gi K fd ["self","key","stamp"] []
 me_InRun_find:Meth K c.InRun "find" c.InRun_find
 i_InRun_between:∃ fd dV,FunD K "between" "InRun.between" cz dV c.InRun_between fd/\gi K fd ["self","low","high"] []
 me_InRun_between:Meth K c.InRun "between" c.InRun_between
 i_Hand_init:∃ fd dV,FunD K "__init__" "Hand.__init__" fF dV c.Hand_init fd/\gi K fd ["self"] []
 mk_Hand:Mk K c.Hand c.Hand_init
 i_Hand_put:∃ fd dV,FunD K "put" "Hand.put" g8 dV c.Hand_put fd/\gi K fd ["self","key","stamp","value"] []
 me_Hand_put:Meth K c.Hand "put" c.Hand_put
 i_Hand_find:∃ fd dV,FunD K "find" "Hand.find" fG dV c.Hand_find fd/\gi K fd ["self","key","stamp"] []
 me_Hand_find:Meth K c.Hand "find" c.Hand_find
 i_Hand_rows:∃ fd dV,FunD K "rows" "Hand.rows" fE dV c.Hand_rows fd/\gi K fd ["self"] []
 me_Hand_rows:Meth K c.Hand "rows" c.Hand_rows
 i_Hand_between:∃ fd dV,FunD K "between" "Hand.between" cM dV c.Hand_between fd/\gi K fd ["self","low","high"] []/\gi K fd ["self","low","high"] [.non]/\gi K fd ["self","low","high"] [.str (PySem.Str.ofString ""),.non]
 me_Hand_between:Meth K c.Hand "between" c.Hand_between
 c_Part:Cls K c.Part
 c_InHand:Cls K c.InHand
 c_InRun:Cls K c.InRun
 c_Hand:Cls K c.Hand
 mo_Part:Su K c.Part
structure Txt (K:W.Frag) (mg:Str->Option Value):Prop where
 f_rank_of:HasFn K mg "rank_of" jh ["entry"]
 f_in_order:HasFn K mg "in_order" gZ ["entries"]
 f_stretch:HasFn K mg "stretch" gA ["entries","low","high"]
 f_newest:HasFn K mg "newest" kq ["entries","key","stamp"]
 f_padded:HasFn K mg "padded" ko ["number","width"]
 f_probe:HasFn K mg "probe" dS ["factor"]
 f_places_of:HasFn K mg "places_of" dn ["key","size"]
 f_sieve_of:HasFn K mg "sieve_of" gY ["keys"]
 f_may_have:HasFn K mg "may_have" eK ["sieve","key"]
 f_sieve_of_entries:HasFn K mg "sieve_of_entries" bf ["entries"]
 f_run_of:HasFn K mg "run_of" kn ["entries"]
 f_find:HasFn K mg "find" tj ["run","key","stamp"]
 f_between:HasFn K mg "between" jj ["run","low","high"]
 f_name_of:HasFn K mg "name_of" ji ["number"]
 f__law_cell_at:HasFn K mg "_law_cell_at" cJ ["_law_script","_law_k"]
 f__law_whole:HasFn K mg "_law_whole" dU ["_law_found"]
 f__law_stream:HasFn K mg "_law_stream" da ["_law_cell","_law_many_here"]
 f__law_sign:HasFn K mg "_law_sign" fq ["_law_x"]
 f__law_text:HasFn K mg "_law_text" dq ["_law_x","_law_most"]
 f__law_keys:HasFn K mg "_law_keys" fz ["_law_cell","_law_many_here"]
 f__law_value:HasFn K mg "_law_value" dW ["_law_x"]
 f__law_entries:HasFn K mg "_law_entries" bX ["_law_cell","_law_many_here"]
 f__law_ordered:HasFn K mg "_law_ordered" aN ["_law_entries_here"]
 f__law_stamps:HasFn K mg "_law_stamps" bS ["_law_entries_here","_law_cell"]
 f__law_all_entries:HasFn K mg "_law_all_entries" bI ["_law_found"]
 f__law_many:HasFn K mg "_law_many" fw ["_law_cell"]
 f__law_first:HasFn K mg "_law_first" dX ["_law_entries_here","_law_word","_law_stamp"]
 f__law_between:HasFn K mg "_law_between" bY ["_law_row","_law_low","_law_high"]
 f__law_told:HasFn K mg "_law_told" fo ["_law_part","_law_row","_law_words","_law_stamps_here","_law_bounds"]
 f__law_says:HasFn K mg "_law_says" dt ["_law_hand","_law_run","_law_sieve","_law_row","_law_words"]
 c__law_ordered:∃ f fd cd,Fn K mg "_law_ordered" aN ["_law_entries_here"] f fd/\fd.code = .ref cd/\W.codeHdIn K cd qe = true
 c_probe:∃ f fd cd,Fn K mg "probe" dS ["factor"] f fd/\fd.code = .ref cd/\W.codeHdIn K cd aB = true
 g_GREATEST_STAMP:∃ u,mg "GREATEST_STAMP" = some u/\RelV (.int 999999999) u
 g_FACTORS:∃ a,(∃ u,mg "FACTORS" = some u/\RelV (.ref a) u)/\∀ H,SqT K H a [.int 31,.int 37,.int 41]
 g_FIRST_NUMBER:∃ u,mg "FIRST_NUMBER" = some u/\RelV (.int 7) u
 g_MODULUS:∃ u,mg "MODULUS" = some u/\RelV (.int 1000003) u
 g_NAME_FIGURES:∃ u,mg "NAME_FIGURES" = some u/\RelV (.int 7) u
 b__law_entry:mg "_law_entry" = none
 b_all:mg "all" = none
 b_bool:mg "bool" = none
 b_int:mg "int" = none
 b_isinstance:mg "isinstance" = none
 b_key:mg "key" = none
 b_len:mg "len" = none
 b_list:mg "list" = none
 b_max:mg "max" = none
 b_min:mg "min" = none
 b_ord:mg "ord" = none
 b_place_of:mg "place_of" = none
 b_range:mg "range" = none
 b_set:mg "set" = none
 b_size:mg "size" = none
 b_sorted:mg "sorted" = none
 b_str:mg "str" = none
 b_tuple:mg "tuple" = none
 b_zip:mg "zip" = none
 al_find_runs:∀ f,mg "find" = some (.ref f)->mg "find_runs" = some (.ref f)
 al_between_runs:∀ f,mg "between" = some (.ref f)->mg "between_runs" = some (.ref f)
 cl:∃ c:Cs,Cl K mg c
local macro_rules | `(tactic| lcg_src) => `(tactic| first | with_reducible assumption | ((with_reducible refine' Same.get ?s ?e); (case s => with_reducible assumption); (case e => lcg_src)))
local macro_rules | `(tactic| lcg_sub) => `(tactic| first | with_reducible assumption | with_reducible exact Same.refl _ | ((with_reducible refine' Same.tr ?s ?e); (case s => with_reducible assumption); (case e => lcg_sub)))
local macro_rules | `(tactic| keq_rows) => `(tactic| first | with_reducible assumption | with_reducible exact Rep.int' | with_reducible exact Rep.str' | with_reducible exact Rep.bl' | with_reducible exact Rep.non' | ((with_reducible refine' Rep.same ?s ?e); (case s => with_reducible assumption); (case e => keq_rows)) | ((with_reducible refine' Rep.mkT ?c ?_); (case c => lcg_src); keq_hits) | ((with_reducible refine' Rep.mkL ?c ?_); (case c => lcg_src); keq_hits) | ((with_reducible refine' Rep.mkD ?c); (case c => lcg_src)))
local macro_rules | `(tactic| keq_hits) => `(tactic| first | with_reducible assumption | with_reducible exact Reps.nil' | ((with_reducible refine' Reps.cons' ?c ?_); (case c => keq_rows); keq_hits) | ((with_reducible refine' Reps.same ?s ?e); (case s => with_reducible assumption); (case e => keq_hits)))
local macro_rules | `(tactic| tlg_ne) => `(tactic| first | with_reducible assumption | ((with_reducible refine' SqL.of ?c); (case c => lcg_src)) | ((with_reducible refine' SqT.of ?c); (case c => lcg_src)) | ((with_reducible refine' SqL.same ?s ?e); (case s => with_reducible assumption); (case e => tlg_ne)))
local macro_rules | `(tactic| kpc_turns) => `(tactic| first | decide | omega | (constructor <;> first | decide | omega))
local macro_rules | `(tactic| kas_types) => `(tactic| simp only [XH, Sj, OS, Cd, Cc, Cb])
local macro_rules | `(tactic| kpt_turns) => `(tactic| first
 | refine Nn ?_
 | ((with_reducible refine' ye ?c ?_);(case c=>kpc_turns))
 | ((with_reducible refine' F0 ?c ?_);(case c=>kpc_turns))
 | ((with_reducible refine' FT ?c ?_);(case c=>first | exact .inl (by kpc_turns) | exact .inr (by kpc_turns)))
 | ((with_reducible refine' Kj ?c ?_);(case c=>(simp only [List.length_cons,List.length_nil];decide));intro _ _ _ _)
 | ((with_reducible refine' Kk ?c ?_);(case c=>(simp only [List.length_cons,List.length_nil];decide));intro _ _ _ _ _)
 | ((with_reducible refine' Kr ?c ?d ?_);(case c=>tlg_ne);(case d=>exact rfl))
 | ((with_reducible refine' fW ?c ?d ?_);(case c=>tlg_ne);(case d=>exact rfl))
 | ((with_reducible refine' Kt ?c ?_);(case c=>lcg_src))
 | ((with_reducible refine' Kv ?c ?_);(case c=>lcg_src))
 | ((with_reducible refine' Qu ?c ?_);(case c=>lcg_src))
 | ((with_reducible refine' FW ?c ?_);(case c=>tlg_ne))
 | ((with_reducible refine' FY ?c ?_);(case c=>tlg_ne))
 | ((with_reducible refine' FX ?c ?_);(case c=>first | assumption | (show _ <= 16777216;decide) | omega))
 | ((with_reducible refine' Qt ?c ?d ?_);(case c=>tlg_ne);(case d=>simp [HT.sIx];done);intro _ _ _ h;(simp [pF,HT.sIx] at h))
 | ((with_reducible refine' KH ?c ?_);(case c=>lcg_src))
 | ((with_reducible refine' Kd ?c ?_);(case c=>omega))
 | ((with_reducible refine' Pt ?_);intro _ _ _ _ _)
 | ((with_reducible refine' Ke ?c ?_);(case c=>kpc_turns))
 | ((with_reducible refine' yf ?c ?_);(case c=>tlg_ne))
 | ((with_reducible refine' Kz ?c ?_);(case c=>tlg_ne))
 | ((with_reducible refine' Ga ?c ?_);(case c=>kpc_turns))
 | ((with_reducible refine' Pr ?c ?_);(case c=>refine ⟨?_,?_,?_,?_⟩ <;> first | decide | omega))
 | ((with_reducible refine' FZ ?c ?d ?_);(case c=>tlg_ne);(case d=>exact rfl))
 | ((with_reducible refine' C4 ?c ?_);(case c=>tlg_ne);intro _ _ _ _ _)
 | ((with_reducible refine' Nm ?c ?_);(case c=>tlg_ne);intro _ _ _ _ _)
 | ((with_reducible refine' nG ?c ?d ?e ?_);(case c=>lcg_src);(case d=>lcg_src);(case e=>first | (simp only [List.length_cons,List.length_nil];decide) | (simp only [List.length_cons,List.length_nil,List.length_append,sizeLine_eq];omega));intro _ _ _ _ h;(try simp only [List.cons_append,List.nil_append] at h))
 | ((with_reducible refine' Pu ?c ?d ?f ?e ?_);(case c=>lcg_src);(case d=>lcg_src);(case f=>(intro h;cases h));(case e=>first | (simp only [List.length_cons,List.length_nil];decide) | (simp only [List.length_cons,List.length_nil,List.length_append,sizeLine_eq];omega));intro _ _ _ h;(try simp only [List.cons_append,List.nil_append] at h)))
local macro_rules | `(tactic| lcg_off) => `(tactic| repeat kpt_turns)
local macro_rules | `(tactic| kaf_pre) => `(tactic| ((with_reducible refine' Pq ?c ?a ?b ?_); (case c => tlg_ne); (case a => first | exact Int.emod_nonneg _ (by decide) | omega); (case b => first | exact Int.emod_lt_of_pos _ (by decide) | (simp only [List.length_cons, List.length_nil]; omega))))
local macro_rules | `(tactic| kaf_suf) => `(tactic| ((with_reducible refine' nE ?c ?a ?b ?_); (case c => tlg_ne); (case a => first | exact Int.emod_nonneg _ (by decide) | omega); (case b => first | exact Int.emod_lt_of_pos _ (by decide) | (simp only [List.length_cons, List.length_nil]; omega))))
section
def CI (K:W.Frag):Sp:=fun vs H Q _=>∃ (a:Addr) (ns:List Int) (k:Nat),vs = [.ref a,.int k]/\SqL K H a (ns.map V.int)/\Q (.int (ns.getD k 0)) H
theorem mK:ao ["_law_script","_law_k"] ["_law_script","_law_k"] (ab cJ):=dE
theorem mS (T:Txt K mg) (N:Fn K mg "_law_cell_at" cJ ["_law_script","_law_k"] f fd):FnOk P w K mg base bR (1) f fd ["_law_script","_law_k"] (CI K):=by
 refine N.fu.okB mK (fun vs H Q E h=>?_) (fun aT A outer s H vs Q E hr h=>?_)
 ·obtain ⟨a,ns,k,rfl,_⟩:=h
  rfl
 ·obtain ⟨a,ns,k,rfl,hS,q⟩:=h;refine ⟨_,(ag (bh (ay Hf (bv 1) (mD kQ T.b_len (by kernel_rfl) (af (bv 0) ae rfl)) (az _))
   (ai (aq (bp aC (bv 0) (bv 1) (fun _ _=>rfl))))
   aA)
  (ai (aq b_int))),?_⟩
  kas_types;lcg_off;refine bJ (fun h1=>?_) (fun h1=>?_)
  ·rw [List.length_map] at h1;have hk:k < ns.length:=by omega
   lcg_off;refine fW hS (kT (v:=.int (ns.getD k 0)) ?_) q;rw [List.getElem?_map,List.getElem?_eq_getElem hk,List.getD_eq_getElem?_getD,List.getElem?_eq_getElem hk]
   rfl
  ·rw [List.length_map] at h1;have e:ns.getD k 0 = 0:=by
    rw [List.getD_eq_getElem?_getD,List.getElem?_eq_none (by omega)]
    rfl
   rw [e] at q;lcg_off;exact q
theorem gN {ns:List Int} {i:Int} {k:Nat} (hS:SqL K H a (ns.map V.int)) (hi:i = (k:Int)) (q:Q (.int (ns.getD k 0)) H):CI K [.ref a,.int i] H Q E:=⟨a,ns,k,by rw [hi],hS,q⟩
theorem la (x y:Str):(x ++ y).length = x.length + y.length:=by rw [len_list,app_list,List.length_append,<- len_list,<- len_list]
theorem yd {x:Str} {lo hi:Option Int} (hx:x.length <= 5000) (h:Q (.str (Txt.slice x lo hi)) H):Gf K (.str x) lo hi H Q:=C2 (by rw [sizeLine_eq];omega) h
theorem kx {x y:Str} (hx:x.length + y.length <= 10000) (h:∀ z:Str,z.length = x.length + y.length->Q (.str z) H):oa K (.str x) (.str y) H Q:=jm (by rw [sizeLine_eq];omega) (h _ (la x y))
def vj:Sp:=fun vs H Q _=>∃ c m:Int,vs = [.int c,.int m]/\0 <= m/\m <= 5000/\∀ p H' (ns:List Int),H p = none->Same H H'->H' p = some (.lst (ns.map V.int))->ns.length = m.toNat->(∀ n ∈ ns,0 <= n)->Q (.ref p) H'
theorem bV:ao ["_law_cell","_law_many_here","_law_found","_law_number","_law_k"] ["_law_cell","_law_many_here"] (ab da):=dE
theorem cN (T:Txt K mg) (N:Fn K mg "_law_stream" da ["_law_cell","_law_many_here"] f fd):FnOk P w K mg base bR (1) f fd ["_law_cell","_law_many_here"] (vj):=by
 refine N.fu.okB bV (fun vs H Q E h=>?_) (fun aT A outer s H vs Q E hr h=>?_)
 ·obtain ⟨c,m,rfl,_⟩:=h
  rfl
 ·obtain ⟨c,m,rfl,h0,hm,q⟩:=h;refine ⟨_,(ag (aw (i:=2) bV.nd rfl (.inl rfl) (fO ae))
  (ag (aw (i:=3) bV.nd rfl (.inl rfl) (ax aP (bv 0) b_int))
  (ag (cF PassesOwn.never rfl (OZ T.b_range (af (bv 1) ae rfl)) (bA (i:=4) bV.nd rfl (.inl rfl))
   (ag (aw (i:=3) bV.nd rfl (.inl rfl) (ax aP (ax bE (ax bE (ax rG (bv 3) b_int) b_int) (bv 4)) b_int))
  (ai (jv (lW (bv 2) (af (bv 3) ae rfl))))))
  (ai (aq (bv 2)))))),?_⟩
  kas_types;lcg_off;rename_i l Hl A4 sl hl;refine forR (fun i σ H'=>∃ (ns:List Int) (nb:Int) (o:Option V),σ = [some (.int c),some (.int m),some (.ref l),some (.int nb),o]/\Same H H'/\H' l = some (.lst (ns.map V.int))/\ns.length = i/\(∀ n ∈ ns,0 <= n))
   ⟨[],_,none,rfl,sl,hl,rfl,fun n hn=>(nomatch hn)⟩ (fun i σ H' hi h=>?_) (fun σ H' h=>?_)
  ·obtain ⟨ns,nb,o,rfl,s1,hx,hlen,A0⟩:=h;lcg_off;refine lz hx (by rw [List.length_map,hlen,sizeLine_eq];omega) ?_;lcg_off;refine ⟨ns ++ [(nb * 48271 + 11 + (0 + (i:Int))) % 2147483647],_,_,rfl,bC s1 A4,?_,?_,?_⟩
   ·rw [ak,List.map_append]
    rfl
   ·rw [List.length_append,hlen]
    rfl
   ·intro n hn
    rcases List.mem_append.mp hn with h1 | h1
    ·exact A0 n h1
    ·rw [List.mem_singleton.mp h1];exact Int.emod_nonneg _ (by decide)
  ·obtain ⟨ns,nb,o,rfl,s1,hx,hlen,A0⟩:=h;lcg_off;exact q l H' ns A4 s1 hx hlen A0
theorem eJ {c:Int} (h0:0 <= m) (hm:m <= 5000) (q:∀ p H' (ns:List Int),H p = none->Same H H'->H' p = some (.lst (ns.map V.int))->ns.length = m.toNat->(∀ n ∈ ns,0 <= n)->Q (.ref p) H'):vj [.int c,.int m] H Q E:=⟨c,m,rfl,h0,hm,q⟩
def Cf:Sp:=fun vs H Q _=>∃ n:Int,vs = [.int n]/\∀ c:Nat,Q (.str ⟨#[c]⟩) H
theorem gT:ao ["_law_x","_law_some"] ["_law_x"] (ab fq):=dE
theorem hV (T:Txt K mg) (N:Fn K mg "_law_sign" fq ["_law_x"] f fd):FnOk P w K mg base bR (1) f fd ["_law_x"] (Cf):=by
 refine N.fu.okB gT (fun vs H Q E h=>?_) (fun aT A outer s H vs Q E hr h=>?_)
 ·obtain ⟨n,rfl,_⟩:=h
  rfl
 ·obtain ⟨n,rfl,q⟩:=h;refine ⟨_,(ag (aw (i:=1) gT.nd rfl (.inl rfl) b_str)
  (ag (aw (i:=1) gT.nd rfl (.inl rfl) (ax bE (bv 1) b_str))
  (ai (aq (bp aC (bv 1) (ax aP (bv 0) b_int) (fun _ _=>rfl)))))),?_⟩
  kas_types;lcg_off;refine jm (by decide +kernel) ?_;lcg_off;generalize Od:(Str.ofString " !\"#$&'()*+,-./0123456789:;<=>?@ABCDEFGHIJKLMNOPQRSTUVWXYZ[\\]^_`" ++ Str.ofString "abcdefghijklmnopqrstuvwxyz{|}~") = sgn;have Q8:sgn.length = 94:=by rw [<- Od];decide +kernel
  have Wg:sgn.length <= sizeLine:=by rw [Q8,sizeLine_eq];decide
  lcg_off;obtain ⟨ch,uQ,Om⟩:=E2 (xs:=sgn.cps.toList) (i:=n % 94) (Int.emod_nonneg _ (by decide)) (by rw [<- len_list,Q8];exact Int.emod_lt_of_pos _ (by decide));refine Ks Wg uQ ?_;exact q ch
theorem gz {n:Int} (q:∀ c:Nat,Q (.str ⟨#[c]⟩) H):Cf [.int n] H Q E:=⟨n,rfl,q⟩
def Ce:Sp:=fun vs H Q _=>∃ n hi:Int,vs = [.int n,.int hi]/\0 <= hi/\hi <= 1000/\∀ (z:Str) H',(z.length:Int) <= hi->Same H H'->Q (.str z) H'
theorem gS:ao ["_law_x","_law_most","_law_size"] ["_law_x","_law_most"] (ab dq):=dE
theorem kB (T:Txt K mg) (N:Fn K mg "_law_text" dq ["_law_x","_law_most"] f fd):FnOk P w K mg base bR (2) f fd ["_law_x","_law_most"] (Ce):=by
 obtain ⟨_,_,aU⟩:=T.f__law_sign;have bF:=hV (P:=P) (w:=w) (base:=base) T aU;obtain ⟨_,_,aF⟩:=T.f__law_stream;have bb:=cN (P:=P) (w:=w) (base:=base) T aF;refine N.fu.okB gS (fun vs H Q E h=>?_) (fun aT A outer s H vs Q E hr h=>?_)
 ·obtain ⟨n,hi,rfl,_⟩:=h
  rfl
 ·obtain ⟨n,hi,rfl,h0,h2,q⟩:=h;have p1:(0:Int) < hi + 1:=by omega
  have a0:=Int.emod_nonneg n (show (4:Int) ≠ 0 by decide);have b0:=Int.emod_nonneg (n / 16) (Int.ne_of_gt p1);refine ⟨_,(ag (aw (i:=2) gS.nd rfl (.inl rfl) (ax aP (bv 0) b_int))
  (ag (bh (ay (fI (aH hr)) (ax aP (ax aJ (bv 0) b_int) b_int) b_int (az _))
   (ai (aw (i:=2) gS.nd rfl (.inl rfl) (ax aP (ax aJ (bv 0) b_int) (ax bE (bv 1) b_int))))
   aA)
  (ai (aq (Iv b_str (af (wY (x:="_law_y") (ix:=[]) (fv:=[]) (osc:=ab dq) rfl ⟨rfl,by decide +kernel,by decide +kernel,by rfl,by decide +kernel,by decide +kernel,by decide +kernel⟩ (by rfl) (bo (dB aF bb hr.m (af (ax aJ (bv 0) b_int) (af (mD (JG rfl) T.b_min (by kernel_rfl) (af (bv 2) (af (bv 1) ae rfl) rfl)) ae rfl) rfl))) (fun _ _ _ _=>hZ) (fun _ _ _ _=>(dB aU bF hr.m (af (ax aJ (bv 0) b_int) ae rfl)))) ae rfl)))))),?_⟩
  kas_types;lcg_off;refine oC (fun σ' H'=>∃ sz:Int,0 <= sz/\σ' = [some (.int n),some (.int hi),some (.int sz)]/\H' = H) (fun σ' H' h=>?_) (fun h3 nx hx=>?_) (fun h3 nx hx=>?_)
  ·obtain ⟨sz,hz,rfl,rfl⟩:=h;lcg_off;refine ⟨rfl,?_⟩;lcg_off;refine eJ (by omega) (by omega) (fun ps Hs ns zv ss hs hlen A0=>?_)
   lcg_off;refine AN (xs:=ns.map V.int) (fun i ys H'=>Same Hs H'/\∃ cs:List Nat,ys = (cs.map fun c=>V.str ⟨#[c]⟩)/\cs.length = i) (by rw [List.length_map,hlen,sizeLine_eq];omega) ⟨Same.refl _,[],rfl,rfl⟩ (fun i ys H' h=>⟨SqL.of (h.1 _ _ hs),by obtain ⟨_,cs,rfl,h2⟩:=h;rw [List.length_map,h2]⟩) (fun i v ys H' hv h=>?_) (fun ys p H' H1 h hp sp hl=>?_)
   ·obtain ⟨sH,cs,rfl,h2⟩:=h;rw [List.getElem?_map] at hv;obtain ⟨x,hx,rfl⟩:=Option.map_eq_some_iff.mp hv;lcg_off;refine gz (fun c=>⟨sH,cs ++ [c],by rw [List.map_append];rfl,by rw [List.length_append,h2];rfl⟩)
   ·obtain ⟨sH,cs,rfl,h2⟩:=h;rw [List.length_map] at h2;lcg_off;refine ⟨_,p,cs.map fun c=>(⟨#[c]⟩:Str),rfl,rfl,SqL.of (by rw [hl,List.map_map];rfl),?_,?_⟩
    ·rw [Fw,List.length_map,show (Str.ofString "").length = 0 from rfl];omega
    ·rw [join_one];refine q _ _ ?_ (by lcg_sub);have e:(⟨cs.toArray⟩:Str).length = cs.length:=by rw [len_list]
     rw [e];omega
  ·lcg_off;exact hx _ _ ⟨_,b0,rfl,rfl⟩
  ·lcg_off;exact hx _ _ ⟨_,a0,rfl,rfl⟩
theorem nP {n hi:Int} (h1:0 <= hi) (h2:hi <= 1000) (q:∀ (z:Str) H',(z.length:Int) <= hi->Same H H'->Q (.str z) H'):Ce [.int n,.int hi] H Q E:=⟨n,hi,rfl,h1,h2,q⟩
def okVal (v:V):Prop:=v = .non \/ ∃ z:Str,v = .str z/\z.length <= 40
def yT:Sp:=fun vs H Q _=>∃ n:Int,vs = [.int n]/\∀ v H',okVal v->Same H H'->Q v H'
theorem qh:ao ["_law_x"] ["_law_x"] (ab dW):=dE
theorem qp (T:Txt K mg) (N:Fn K mg "_law_value" dW ["_law_x"] f fd):FnOk P w K mg base bR (3) f fd ["_law_x"] (yT):=by
 obtain ⟨_,_,cI⟩:=T.f__law_text;have fQ:=kB (P:=P) (w:=w) (base:=base) T cI;refine N.fu.okB qh (fun vs H Q E h=>?_) (fun aT A outer s H vs Q E hr h=>?_)
 ·obtain ⟨n,rfl,_⟩:=h
  rfl
 ·obtain ⟨n,rfl,q⟩:=h;refine ⟨_,(ag (bh (ay (fI (aH hr)) (ax aP (bv 0) b_int) b_int (az _))
   (ai (aq fN))
   aA)
  (ai (aq (dB cI fQ hr.m (af (ax aJ (bv 0) b_int) (af b_int ae rfl) rfl))))),?_⟩
  kas_types;lcg_off;refine bJ (fun h1=>?_) (fun h1=>?_)
  ·lcg_off;exact q _ _ (.inl rfl) (Same.refl _)
  ·lcg_off;refine nP (by decide) (by decide) (fun z H' hz sz=>?_);exact q _ _ (.inr ⟨z,rfl,by omega⟩) sz
theorem zS {n:Int} (q:∀ v H',okVal v->Same H H'->Q v H'):yT [.int n] H Q E:=⟨n,rfl,q⟩
end
section
theorem El {F:St->Hp->Prop} (h:F (σ.set i (some v)) H):jL i v σ H F:=h
theorem sV {T U:TS} {D:Ends} (R:St->Hp->Prop) (h1:∀ Jg:St->Hp->Prop,(∀ σ' H',R σ' H'->Jg σ' H')->T { nx:=Jg,rt:=D.rt,bk:=D.bk,ct:=D.ct } σ H) (h2:∀ σ' H',R σ' H'->U D σ' H'):BX T U D σ H:=h1 _ h2
theorem rW (ws:List Str):(ws.map V.str).all kN = true:=by
 rw [List.all_map];exact List.all_eq_true.mpr fun _ _=>rfl
theorem Kx {x:Str} {neg:Bool} (h1:SqL K H p (ws.map V.str)) (q:∀ b,Q (.bl b) H):Pw K neg (.str x) (.ref p) H Q:=⟨p,_,rfl,.inl h1,rfl,rW ws,q _⟩
theorem Ly (z:Str) (h0:0 <= j) (h:j <= z.length):((Txt.slice z none (some j)).length:Int) = j:=by
 obtain ⟨k,rfl⟩:∃ k:Nat,j = k:=⟨j.toNat,by omega⟩;rw [len_list,xW,List.length_take,<- len_list];omega
theorem len_from (z:Str) (h0:0 <= j) (h:j <= z.length):((Txt.slice z (some j) none).length:Int) = z.length - j:=by
 obtain ⟨k,rfl⟩:∃ k:Nat,j = k:=⟨j.toNat,by omega⟩;rw [len_list,xX,List.length_drop,<- len_list];omega
theorem DZ (z:Str) (h:1 <= z.length):(Txt.slice z none (some (-1))).length = z.length - 1:=by
 have e:z = ⟨(z.cps.toList.take (z.length - 1)).toArray⟩ ++ ⟨(z.cps.toList.drop (z.length - 1)).toArray⟩:=by
  apply kj;rw [app_list];show _ = z.cps.toList.take (z.length - 1) ++ z.cps.toList.drop (z.length - 1);rw [List.take_append_drop]
 have hl:=len_list z;have h1:(⟨(z.cps.toList.drop (z.length - 1)).toArray⟩:Str).length = 1:=by
  rw [len_list];show (z.cps.toList.drop (z.length - 1)).length = 1;rw [List.length_drop,<- hl];omega
 rw (config:={ occs:=.pos [1] }) [e];rw [xT _ _ h1,len_list];show (z.cps.toList.take (z.length - 1)).length = _;rw [List.length_take,<- hl];omega
def Ff (w:Str):Prop:=1 <= w.length/\w.length <= 20
def CA:Sp:=fun vs H Q _=>∃ c m:Int,vs = [.int c,.int m]/\0 <= m/\m <= 30/\∀ p H' (ws:List Str),H p = none->Same H H'->H' p = some (.lst (ws.map V.str))->1 <= ws.length->ws.length <= 31->(∀ w ∈ ws,Ff w)->Q (.ref p) H'
theorem aZ:ao ["_law_cell","_law_many_here","_law_found","_law_x","_law_last","_law_at","_law_word"] ["_law_cell","_law_many_here"] (ab fz):=dE
theorem kC (T:Txt K mg) (N:Fn K mg "_law_keys" fz ["_law_cell","_law_many_here"] f fd):FnOk P w K mg base bR (3) f fd ["_law_cell","_law_many_here"] (CA):=by
 obtain ⟨_,_,aF⟩:=T.f__law_stream;have bb:=cN (P:=P) (w:=w) (base:=base) T aF;obtain ⟨_,_,aU⟩:=T.f__law_sign;have bF:=hV (P:=P) (w:=w) (base:=base) T aU;obtain ⟨_,_,cI⟩:=T.f__law_text;have fQ:=kB (P:=P) (w:=w) (base:=base) T cI;refine N.fu.okB aZ (fun vs H Q E h=>?_) (fun aT A outer s H vs Q E hr h=>?_)
 ·obtain ⟨c,m,rfl,_⟩:=h
  rfl
 ·obtain ⟨c,m,rfl,h0,hm,q⟩:=h;refine ⟨_,(ag (aw (i:=2) aZ.nd rfl (.inl rfl) (fO (af (ax bE (dB aU bF hr.m (af (bv 0) ae rfl)) (dB cI fQ hr.m (af (ax aJ (bv 0) b_int) (af b_int ae rfl) rfl))) ae rfl)))
  (ag (cF PassesOwn.never rfl (bo (dB aF bb hr.m (af (bv 0) (af (bv 1) ae rfl) rfl))) (bA (i:=3) aZ.nd rfl (.inl rfl))
   (ag (aw (i:=4) aZ.nd rfl (.inl rfl) (bp aC (bv 2) (ax aP (ax aJ (bv 3) b_int) (mD kQ T.b_len (by kernel_rfl) (af (bv 2) ae rfl))) (fun _ _=>rfl)))
  (ag (aw (i:=5) aZ.nd rfl (.inl rfl) (ax aP (ax aJ (bv 3) b_int) (mD kQ T.b_len (by kernel_rfl) (af (bv 4) ae rfl))))
  (ag (aw (i:=6) aZ.nd rfl (.inl rfl) (ax bE (ax bE (jy ro (bv 4) jx (jw (bv 5))) (dB aU bF hr.m (af (ax aJ (bv 3) b_int) ae rfl))) (jy ro (bv 4) (jw (ax bE (bv 5) b_int)) jx)))
  (ag (bh (hX (iQ (ay (fI (aH hr)) (ax aP (bv 3) b_int) b_int (az _)) (fM (ay Hf (mD kQ T.b_len (by kernel_rfl) (af (bv 4) ae rfl)) b_int (az _)))))
   (ai (aw (i:=6) aZ.nd rfl (.inl rfl) (ax bE (bv 4) (dB aU bF hr.m (af (ax aJ (bv 3) b_int) ae rfl)))))
   aA)
  (ag (bh (hX (iQ (ay (fI (aH hr)) (ax aP (bv 3) b_int) b_int (az _)) (fM (ay Jf (mD kQ T.b_len (by kernel_rfl) (af (bv 4) ae rfl)) b_int (az _)))))
   (ai (aw (i:=6) aZ.nd rfl (.inl rfl) (jy ro (bv 4) jx (jw (EV nN b_int)))))
   aA)
  (ag (bh (ay (fI (aH hr)) (ax aP (bv 3) b_int) b_int (az _))
   (ai (aw (i:=6) aZ.nd rfl (.inl rfl) (ax bE (dB aU bF hr.m (af (ax aJ (bv 3) b_int) ae rfl)) (dB cI fQ hr.m (af (ax aJ (bv 3) b_int) (af b_int ae rfl) rfl)))))
   aA)
  (ai (bh (ay tJ (bv 6) (bv 2) rfl)
   (ai (jv (lW (bv 2) (af (bv 6) ae rfl))))
   aA)))))))))
  (ai (aq (bv 2))))),?_⟩
  kas_types;lcg_off;refine gz (fun c0=>?_);lcg_off;refine nP (by decide) (by decide) (fun z0 H0 VZ s0=>?_);lcg_off;refine kx (by rw [show (⟨#[c0]⟩:Str).length = 1 from rfl];omega) (fun w0 V5=>?_);rw [show (⟨#[c0]⟩:Str).length = 1 from rfl] at V5;lcg_off;rename_i l Hl A4 sl hl;refine eJ (by omega) (by omega) (fun ps Hs ns zv ss hs hlen A0=>?_);lcg_off;have Tx:H l = none:=by
   cases e:H l with
   | none=>rfl
   | some o=>rw [s0 l o e] at A4;cases A4
  have VD:ps ≠ l:=fun z=>by rw [z,hl] at zv;cases zv
  refine forL (xs:=ns.map V.int) (fun i σ H'=>∃ (ws:List Str) (o1 o2 o3 o4:Option V),σ = [some (.int c),some (.int m),some (.ref l),o1,o2,o3,o4]/\Same H H'/\H' l = some (.lst (ws.map V.str))/\H' ps = some (.lst (ns.map V.int))/\1 <= ws.length/\ws.length <= i + 1/\∀ w ∈ ws,Ff w)
   ⟨[w0],none,none,none,none,rfl,by lcg_sub,ss _ _ hl,hs,Nat.le_refl _,Nat.le_refl _,fun w hw=>by rw [List.mem_singleton.mp hw];exact ⟨by omega,by omega⟩⟩
   (fun i σ H' h=>by obtain ⟨_,_,_,_,_,_,_,_,h,_⟩:=h;exact SqL.of h) (fun i x σ H' hi hx h=>?_) (fun σ H' h=>?_)
  ·obtain ⟨ws,o1,o2,o3,o4,rfl,sH,hw,Eb,MQ,Oa,hok⟩:=h;rw [List.getElem?_map] at hx;obtain ⟨x,Ea,rfl⟩:=Option.map_eq_some_iff.mp hx;have Tj:=A0 x (List.mem_of_getElem? Ea);have Z9:ns.length <= 30:=by omega
   rw [List.length_map] at hi;lcg_off;refine ye (by rw [List.length_map];omega) ?_;refine nE (SqL.of hw) (Int.emod_nonneg _ (by rw [List.length_map];omega)) (Int.emod_lt_of_pos _ (by rw [List.length_map];omega)) (fun v hv=>?_);obtain ⟨last,Oq,rfl⟩:=List.mem_map.mp hv;obtain ⟨k1,k2⟩:=hok last Oq;have ks:last.length <= sizeLine:=by rw [sizeLine_eq];omega
   lcg_off;have a0:0 <= x / 64 % (last.length:Int):=Int.emod_nonneg _ (by omega);have a1:x / 64 % (last.length:Int) < last.length:=Int.emod_lt_of_pos _ (by omega);generalize x / 64 % (last.length:Int) = at_ at *;refine yd (by omega) ?_;have e1:=Ly last a0 (by omega);generalize Txt.slice last none (some at_) = y1 at *;lcg_off;refine gz (fun c1=>?_);lcg_off;refine kx (by rw [show (⟨#[c1]⟩:Str).length = 1 from rfl];omega) (fun y2 e2=>?_);rw [show (⟨#[c1]⟩:Str).length = 1 from rfl] at e2;lcg_off;refine yd (by omega) ?_;have e3:=len_from last (j:=at_ + 1) (by omega) (by omega);generalize Txt.slice last (some (at_ + 1)) none = y3 at *;lcg_off;refine kx (by omega) (fun y4 e4=>?_);have SR:Ff y4:=⟨by omega,by omega⟩;clear e1 e2 e3 e4;refine El ?_;dsimp only [List.set];refine sV (fun σ' G=>∃ w2:Str,Ff w2/\σ' = [some (.int c),some (.int m),some (.ref l),some (.int x),some (.str last),some (.int at_),some (.str w2)]/\Same H G/\G l = some (.lst (ws.map V.str))/\G ps = some (.lst (ns.map V.int))) (fun nx Fi=>?_) (fun σ' G hG=>?_)
   ·lcg_off;refine bJ (fun h1=>?_) (fun h1=>?_)
    ·lcg_off;refine bJ (fun h2=>?_) (fun h2=>?_)
     ·lcg_off;refine gz (fun c2=>?_);lcg_off;refine kx (by rw [show (⟨#[c2]⟩:Str).length = 1 from rfl];omega) (fun y5 e5=>?_);rw [show (⟨#[c2]⟩:Str).length = 1 from rfl] at e5;lcg_off;exact Fi _ _ ⟨y5,⟨by omega,by omega⟩,rfl,sH,hw,Eb⟩
     ·lcg_off;exact Fi _ _ ⟨y4,SR,rfl,sH,hw,Eb⟩
    ·lcg_off;exact Fi _ _ ⟨y4,SR,rfl,sH,hw,Eb⟩
   obtain ⟨w2,QD,rfl,sG,BB,Ed⟩:=hG;refine sV (fun σ' G=>∃ w2:Str,Ff w2/\σ' = [some (.int c),some (.int m),some (.ref l),some (.int x),some (.str last),some (.int at_),some (.str w2)]/\Same H G/\G l = some (.lst (ws.map V.str))/\G ps = some (.lst (ns.map V.int))) (fun nx Fi=>?_) (fun σ' G2 hG=>?_)
   ·lcg_off;refine bJ (fun h1=>?_) (fun h1=>?_)
    ·lcg_off;refine bJ (fun h2=>?_) (fun h2=>?_)
     ·lcg_off;refine yd (by omega) ?_;have e6:=DZ last (by omega);lcg_off;exact Fi _ _ ⟨_,⟨by omega,by omega⟩,rfl,sG,BB,Ed⟩
     ·lcg_off;exact Fi _ _ ⟨w2,QD,rfl,sG,BB,Ed⟩
    ·lcg_off;exact Fi _ _ ⟨w2,QD,rfl,sG,BB,Ed⟩
   clear sG BB Ed QD;obtain ⟨w3,SS,rfl,sG,BB,Ed⟩:=hG;refine sV (fun σ' G=>∃ w2:Str,Ff w2/\σ' = [some (.int c),some (.int m),some (.ref l),some (.int x),some (.str last),some (.int at_),some (.str w2)]/\Same H G/\G l = some (.lst (ws.map V.str))/\G ps = some (.lst (ns.map V.int))) (fun nx Fi=>?_) (fun σ' G3 hG=>?_)
   ·lcg_off;refine bJ (fun h1=>?_) (fun h1=>?_)
    ·lcg_off;refine gz (fun c2=>?_);lcg_off;refine nP (by decide) (by decide) (fun z7 H7 VY s7=>?_);lcg_off;refine kx (by rw [show (⟨#[c2]⟩:Str).length = 1 from rfl];omega) (fun y5 e5=>?_);rw [show (⟨#[c2]⟩:Str).length = 1 from rfl] at e5;lcg_off;exact Fi _ _ ⟨y5,⟨by omega,by omega⟩,rfl,by lcg_sub,s7 _ _ BB,s7 _ _ Ed⟩
    ·lcg_off;exact Fi _ _ ⟨w3,SS,rfl,sG,BB,Ed⟩
   clear sG BB Ed SS;obtain ⟨w4,Vy,rfl,sG,BB,Ed⟩:=hG;lcg_off;refine Kx (SqL.of BB) (fun b=>?_);lcg_off
   cases b with
   | true =>
    lcg_off;refine lz BB (by rw [List.length_map,sizeLine_eq];omega) ?_;lcg_off;refine ⟨ws ++ [w4],_,_,_,_,rfl,bC sG Tx,?_,by rw [aj VD];exact Ed,by rw [List.length_append];omega,by rw [List.length_append,List.length_singleton];omega,fun w hw=>?_⟩
    ·rw [ak,List.map_append]
     rfl
    ·rcases List.mem_append.mp hw with h1 | h1
     ·exact hok w h1
     ·rw [List.mem_singleton.mp h1];exact Vy
   | false =>
    lcg_off;exact ⟨ws,_,_,_,_,rfl,sG,BB,Ed,MQ,by omega,hok⟩
  ·obtain ⟨ws,o1,o2,o3,o4,rfl,sH,hw,Eb,MQ,Oa,hok⟩:=h;lcg_off;rw [List.length_map] at Oa;exact q l H' ws Tx sH hw MQ (by omega) hok
theorem v7 {c:Int} (h0:0 <= m) (hm:m <= 30) (q:∀ p H' (ws:List Str),H p = none->Same H H'->H' p = some (.lst (ws.map V.str))->1 <= ws.length->ws.length <= 31->(∀ w ∈ ws,Ff w)->Q (.ref p) H'):CA [.int c,.int m] H Q E:=⟨c,m,rfl,h0,hm,q⟩
end
section
abbrev Ent:=Str × Int × Option Str
def oD:Option Str->D
 | none=>.non
 | some z=>.str z
def au (e:Ent):D:=.tup [.str e.1,.int e.2.1,oD e.2.2]
def cW (e:Ent):RK:=(e.1,-e.2.1)
theorem okVal.rep (h:okVal v) (H:Hp):∃ o,Rep H (oD o) v:=by
 rcases h with rfl | ⟨z,rfl,_⟩
 ·exact ⟨none,Rep.non'⟩
 ·exact ⟨some z,Rep.str'⟩
theorem cq (h:Rep H (au e) v):∃ a x,v = .ref a/\H a = some (.tup [.str e.1,.int e.2.1,x])/\Rep H (oD e.2.2) x:=by
 unfold au at h;simp only [Rep,Reps] at h;obtain ⟨a,vs,rfl,ha,v1,r1,rfl,rfl,v2,r2,rfl,rfl,v3,r3,rfl,h3,rfl⟩:=h;exact ⟨a,v3,rfl,ha,h3⟩
theorem oy {x:V} (ha:H a = some (.tup [.str e.1,.int e.2.1,x])) (hx:Rep H (oD e.2.2) x):Rep H (au e) (.ref a):=by
 unfold au;simp only [Rep,Reps];exact ⟨a,_,rfl,ha,_,_,rfl,rfl,_,_,rfl,rfl,_,_,rfl,hx,rfl⟩
def Lo (ws:List Str) (kv:List Key × V):Prop:=∃ (w:Str) (s:Int),kv.1 = [.inr w,.inl s]/\(w ∈ ws/\s < 10 ^ 9)/\okVal kv.2
theorem Gi {kvs:List (List Key × V)} {w:Str} {s:Int} (h:∀ kv ∈ kvs,Lo ws kv) (hs:w ∈ ws/\s < 10 ^ 9) (hv:okVal v):∀ kv ∈ putK kvs [.inr w,.inl s] v,Lo ws kv:=by
 unfold putK
 split
 ·intro kv hk;obtain ⟨Tf,h0,rfl⟩:=List.mem_map.mp hk
  split
  ·obtain ⟨w',s',e,z,_⟩:=h Tf h0;exact ⟨w',s',e,z,hv⟩
  ·exact h Tf h0
 ·intro kv hk
  rcases List.mem_append.mp hk with h1 | h1
  ·exact h kv h1
  ·rw [List.mem_singleton.mp h1];exact ⟨w,s,rfl,hs,hv⟩
theorem Gj [DecidableEq κ] {kvs:List (κ × V)} {k:κ} (h:(kvs.map (·.1)).Nodup):((putK kvs k v).map (·.1)).Nodup:=by
 unfold putK
 split
 ·rw [List.map_map];have e:((fun x:κ × V=>x.1) ∘ fun kv=>if kv.1 = k then (kv.1,v) else kv) = fun x=>x.1:=by
   funext kv
   show (if kv.1 = k then (kv.1,v) else kv).1 = kv.1
   split <;> rfl
  rw [e];exact h
 ·next hn =>
  rw [List.map_append,List.nodup_append];refine ⟨h,List.pairwise_singleton _ _,fun x hx y hy z=>hn ?_⟩;obtain ⟨kv,h1,rfl⟩:=List.mem_map.mp hx;have MP:y = k:=by simpa using hy
  exact List.any_eq_true.mpr ⟨kv,h1,decide_eq_true (z.trans MP)⟩
theorem BH {κ:Type} [DecidableEq κ]:∀ {kvs:List (κ × V)} {i:Nat} {k:κ} {v:V},(kvs.map (·.1)).Nodup->kvs[i]? = some (k,v)->dC kvs k = some v
 | [],i,k,v,_,h=>by simp at h
 | kv :: kvs,0,k,v,nd,h=>by
  simp at h;subst h;unfold dC;rw [List.find?_cons_of_pos (by simp)]
  rfl
 | kv :: kvs,i + 1,k,v,nd,h=>by
  rw [List.map_cons,List.nodup_cons] at nd;have h':kvs[i]? = some (k,v):=by simpa using h
  have ne:kv.1 ≠ k:=fun z=>nd.1 (by rw [z];exact List.mem_map.mpr ⟨(k,v),List.mem_of_getElem? h',rfl⟩)
  have:=BH nd.2 h';unfold dC at this ⊢;rw [List.find?_cons_of_neg (by simpa using ne)];exact this
theorem VM {kvs : List (List Key × V)} {ix : List Nat} {te : TE} {H1 : Hp} (Pv : Nat -> List V -> Hp -> Prop) (hz : kvs.length < sizeLine) (h0 : Pv 0 [] H1) (hl : ∀ i ys H', Pv i ys H' -> H' a = some (.frz o (.dT kvs)) /\ ys.length = i)
    (hs:∀ i k v b ys H',kvs[i]? = some (k,v)->H' b = some (.tup (k.map kV))->Pv i ys H'->∃ v1 v2,k.map kV = [v1,v2]/\te (some v1 :: some v2 :: pick ix σ) H' fun y H5=>Pv (i + 1) (ys ++ [y]) H5)
    (hd:∀ ys D H',Pv kvs.length ys H'->H' D = none->Q (.ref D) (upd H' D (.lst ys))):MC K (Qa a o kvs) ix σ zZ te Q H1:=by
 refine ⟨fun i m ys H'=>m = kvs.length - i/\i <= kvs.length/\Pv i ys H',⟨kvs.length,by simp,Nat.zero_le _,h0⟩,?_⟩
 rintro i m ys H2 ⟨rfl,hi,p⟩;obtain ⟨ha,hy⟩:=hl i ys H2 p
 by_cases eR:i < kvs.length
 ·refine .inr ⟨⟨ha,eR⟩,by omega,fun x H3 hx=>?_⟩
  obtain ⟨rfl,b,k,v,h1,rfl,h3⟩:=hx;obtain ⟨v1,v2,e,h⟩:=hs i k v b ys H3 h1 h3 p;refine ⟨b,v1,v2,rfl,SqT.of (by rw [<- e];exact h3),?_⟩;show te _ _ _;rw [show (fun y H5=>∃ m',m' < kvs.length - i/\m' = kvs.length - (i + 1)/\i + 1 <= kvs.length/\Pv (i + 1) (ys ++ [y]) H5) = fun y H5=>Pv (i + 1) (ys ++ [y]) H5 from ?_]
  ·exact h
  ·funext y H5
   apply propext;exact ⟨fun ⟨m',_,_,_,h⟩=>h,fun h=>⟨kvs.length - (i + 1),by omega,rfl,eR,h⟩⟩
 ·have e:i = kvs.length:=by omega
  subst e;exact .inl ⟨⟨ha,Nat.le_refl _⟩,fun D hD=>hd ys D H2 p hD⟩
theorem Reps.snoc {H:Hp}:∀ {ds:List D} {vs:List V} {d:D} {v:V},Reps H ds vs->Rep H d v->Reps H (ds ++ [d]) (vs ++ [v])
 | [],vs,d,v,h,h'=>by
  simp only [Reps] at h;subst h;simp only [List.nil_append,Reps];exact ⟨v,[],rfl,h',rfl⟩
 | e :: ds,vs,d,v,h,h'=>by
  simp only [Reps] at h;obtain ⟨u,r,rfl,h1,h2⟩:=h;simp only [List.cons_append,Reps];exact ⟨u,r ++ [v],rfl,h1,Reps.snoc h2 h'⟩
def Cy:Sp:=fun vs H Q _=>∃ c:Int,vs = [.int c]/\∀ m:Int,0 <= m->m <= 101->Q (.int m) H
theorem gW:ao ["_law_cell","_law_many_here"] ["_law_cell"] (ab fw):=dE
theorem tM (T:Txt K mg) (N:Fn K mg "_law_many" fw ["_law_cell"] f fd):FnOk P w K mg base bR (1) f fd ["_law_cell"] (Cy):=by
 refine N.fu.okB gW (fun vs H Q E h=>?_) (fun aT A outer s H vs Q E hr h=>?_)
 ·obtain ⟨c,rfl,_⟩:=h
  rfl
 ·obtain ⟨c,rfl,q⟩:=h;have a0:=Int.emod_nonneg c (show (12:Int) ≠ 0 by decide);have a1:=Int.emod_lt_of_pos c (show (0:Int) < 12 by decide);have b0:=Int.emod_nonneg (c / 72) (show (90:Int) ≠ 0 by decide);have b1:=Int.emod_lt_of_pos (c / 72) (show (0:Int) < 90 by decide);refine ⟨_,(ag (aw (i:=1) gW.nd rfl (.inl rfl) (ax aP (bv 0) b_int))
  (ag (bh (ay (fI (aH hr)) (ax aP (ax aJ (bv 0) b_int) b_int) b_int (az _))
   (ai (aw (i:=1) gW.nd rfl (.inl rfl) (ax bE b_int (ax aP (ax aJ (bv 0) b_int) b_int))))
   aA)
  (ai (aq (bv 1))))),?_⟩
  kas_types;lcg_off;refine bJ (fun h1=>?_) (fun h1=>?_)
  ·lcg_off;exact q _ (by omega) (by omega)
  ·lcg_off;exact q _ (by omega) (by omega)
theorem DV {c:Int} (q:∀ m:Int,0 <= m->m <= 101->Q (.int m) H):Cy [.int c] H Q E:=⟨c,rfl,q⟩
def rg:Sp:=fun vs H Q _=>∃ c m:Int,vs = [.int c,.int m]/\0 <= m/\m <= 101/\∀ p H' (xs:List V) (es:List Ent),H p = none->Same H H'->H' p = some (.lst xs)->Reps H' (es.map au) xs->(es.map cW).Nodup->es.length <= 101->(∀ e ∈ es,e.2.1 < 10 ^ 9)->(∀ e ∈ es,Ff e.1)->Q (.ref p) H'
theorem bu:ao ["_law_cell","_law_many_here","_law_keys_here","_law_begin","_law_found","_law_x","_law_y"] ["_law_cell","_law_many_here"] (ab bX):=dE
theorem mR (T:Txt K mg) (N:Fn K mg "_law_entries" bX ["_law_cell","_law_many_here"] f fd):FnOk P w K mg base bR (4) f fd ["_law_cell","_law_many_here"] (rg):=by
 obtain ⟨_,_,dz⟩:=T.f__law_keys;have iX:=kC (P:=P) (w:=w) (base:=base) T dz;obtain ⟨_,_,aF⟩:=T.f__law_stream;have bb:=cN (P:=P) (w:=w) (base:=base) T aF;obtain ⟨_,_,k8⟩:=T.f__law_value;have uK:=qp (P:=P) (w:=w) (base:=base) T k8;refine N.fu.okB bu (fun vs H Q E h=>?_) (fun aT A outer s H vs Q E hr h=>?_)
 ·obtain ⟨c,m,rfl,_⟩:=h
  rfl
 ·obtain ⟨c,m,rfl,h0,hm,q⟩:=h;refine ⟨_,(ag (aw (i:=2) bu.nd rfl (.inl rfl) (dB dz iX hr.m (af (ax aJ (bv 0) b_int) (af (bp aC (fO (af b_int (af b_int (af b_int (af b_int ae rfl) rfl) rfl) rfl)) (ax aP (bv 0) b_int) (fun _ _=>rfl)) ae rfl) rfl)))
  (ag (aw (i:=3) bu.nd rfl (.inl rfl) (bp aC (fO (af b_int (af (ax lD (ax lD (ax ym b_int b_int) b_int) (ax rG b_int (bv 1))) ae rfl) rfl)) (ax aP (ax aJ (bv 0) b_int) b_int) (fun _ _=>rfl)))
  (ag (aw (i:=4) bu.nd rfl (.inr rfl) IB)
  (ag (cF PassesOwn.never rfl (Mw T.b_zip (af (dB aF bb hr.m (af (bv 0) (af (bv 1) ae rfl) rfl)) (af (dB aF bb hr.m (af (ax bE (ax aJ (bv 0) b_int) b_int) (af (bv 1) ae rfl) rfl)) ae rfl) rfl)) (ER rfl (kR (bA (i:=5) bu.nd rfl (.inl rfl)) (kR (bA (i:=6) bu.nd rfl (.inl rfl)) zH)))
   (ai (EL (rR hr) (bv 4) (eV (af (bp aC (bv 2) (ax aP (ax aJ (bv 5) b_int) (mD kQ T.b_len (by kernel_rfl) (af (bv 2) ae rfl))) (fun _ _=>rfl)) (af (ax bE (ax bE (bv 3) b_int) (ax aP (ax aJ (bv 5) b_int) (ax rG b_int (bv 1)))) ae rfl) rfl)) (dB k8 uK hr.m (af (bv 6) ae rfl)))))
  (ai (aq (O3 (x:="_law_word") (x2:="_law_stamp") (ix:=[4]) (fv:=["_law_found"]) (osc:=ab bX) rfl ⟨rfl,by decide +kernel,by decide +kernel,by rfl,by rfl,by decide +kernel,by decide +kernel,by decide +kernel⟩ (by rfl) (Iz (bv 4)) (fun _ _ _ _=>hZ) (fun _ _ _ _=>(eV (af (bv 0) (af (bv 1) (af (IC (rR hr) (bv 2) (eV (af (bv 0) (af (bv 1) ae rfl) rfl)) (fun _ _=>rfl)) ae rfl) rfl) rfl)))))))))),?_⟩
  kas_types;lcg_off
  kaf_suf
  intro v hv;obtain ⟨k,rfl,k0,k1⟩:∃ k:Int,v = .int k/\0 <= k/\k <= 30:=by
   simp only [List.mem_cons,List.not_mem_nil,or_false] at hv
   rcases hv with rfl | rfl | rfl | rfl
   ·exact ⟨2,rfl,by decide,by decide⟩
   ·exact ⟨4,rfl,by decide,by decide⟩
   ·exact ⟨9,rfl,by decide,by decide⟩
   ·exact ⟨20,rfl,by decide,by decide⟩
  clear hv;lcg_off;refine v7 k0 k1 (fun pk Hk ws Tt sk hk MQ Oa hok=>?_);lcg_off
  kaf_suf
  intro v hv;obtain ⟨bg,rfl,hbg⟩:∃ bg:Int,v = .int bg/\bg + 4 * m < 10 ^ 9:=by
   simp only [List.mem_cons,List.not_mem_nil,or_false] at hv
   rcases hv with rfl | rfl
   ·exact ⟨_,rfl,by omega⟩
   ·exact ⟨_,rfl,by rw [show (10:Int) ^ Int.toNat 9 = 10 ^ 9 from rfl];omega⟩
  clear hv;lcg_off;refine C9 (fun d Hd MY sd hd=>?_);lcg_off;refine eJ h0 (by omega) (fun pa Ha na Wr sa ha Tw WB=>?_);lcg_off;refine eJ h0 (by omega) (fun pb Hb nb Wq sb hb WC Tu=>?_);lcg_off;have Rq:Hb pk = some (.lst (ws.map V.str)):=by lcg_src
  have iw:Hb d = some (.dT []):=by lcg_src
  have TJ:H d = none:=Same.free (by lcg_sub) MY;have Vl:Same H Hb:=by lcg_sub
  have Ic:=sb _ _ ha;have VE:pk ≠ d:=fun z=>by rw [z,iw] at Rq;cases Rq
  have VH:pa ≠ d:=fun z=>by rw [z,iw] at Ic;cases Ic
  have VG:pb ≠ d:=fun z=>by rw [z,iw] at hb;cases hb
  clear sd sa sb sk Wr Wq hd hk ha MY Tt;refine Ky (SqL.of Ic) (SqL.of hb) ?_;refine RY (xs:=na.map V.int) (ys:=nb.map V.int) (by rw [List.length_map,List.length_map,Tw,WC]) (fun i σ H'=>∃ (kvs:List (List Key × V)) (o5 o6:Option V),σ = [some (.int c),some (.int m),some (.ref pk),some (.int bg),some (.ref d),o5,o6]/\Same H H'/\H' d = some (.dT kvs)/\H' pk = some (.lst (ws.map V.str))/\H' pa = some (.lst (na.map V.int))/\H' pb = some (.lst (nb.map V.int))/\(∀ kv ∈ kvs,Lo ws kv)/\(kvs.map (·.1)).Nodup/\kvs.length <= i)
   ⟨[],none,none,rfl,Vl,iw,Rq,Ic,hb,fun kv h=>(nomatch h),List.nodup_nil,Nat.le_refl _⟩ (fun i σ H' h=>by obtain ⟨_,_,_,_,_,_,_,h1,h2,_⟩:=h;exact ⟨SqL.of h1,SqL.of h2⟩) (fun i x y p σ H' H1 hi hx hy h hp sp Z6=>?_) (fun σ H' h=>?_)
  ·obtain ⟨kvs,o5,o6,rfl,sH,gd,gk,ga,gb,RV,OI,gl⟩:=h;rw [List.length_map] at hi;have m1:0 < m:=by omega
   rw [List.getElem?_map] at hx hy;obtain ⟨x,Ea,rfl⟩:=Option.map_eq_some_iff.mp hx;obtain ⟨y,MP,rfl⟩:=Option.map_eq_some_iff.mp hy;have x0:=WB x (List.mem_of_getElem? Ea);lcg_off;refine zS (fun v Hv hv sv=>?_);lcg_off;refine ye (by rw [List.length_map];omega) ?_;refine nE (SqL.of (sv _ _ (sp _ _ gk))) (Int.emod_nonneg _ (by rw [List.length_map];omega)) (Int.emod_lt_of_pos _ (by rw [List.length_map];omega)) (fun u hu=>?_);obtain ⟨key,ng,rfl⟩:=List.mem_map.mp hu;lcg_off;rename_i b H3 s3 RJ;refine C8 (k:=[.inr key,.inl _]) (s3 _ _ (sv _ _ (sp _ _ gd))) RJ (by rw [sizeLine_eq];omega) ?_;refine ⟨_,_,_,rfl,bC (by lcg_sub) TJ,ak,?_,?_,?_,Gi RV ⟨ng,by have:=Int.emod_lt_of_pos (x / 9) (show (0:Int) < 4 * m by omega);omega⟩ hv,Gj OI,?_⟩
   ·rw [aj VE];exact s3 _ _ (sv _ _ (sp _ _ gk))
   ·rw [aj VH];exact s3 _ _ (sv _ _ (sp _ _ ga))
   ·rw [aj VG];exact s3 _ _ (sv _ _ (sp _ _ gb))
   ·have:=iL kvs [.inr key,.inl (bg + 1 + x / 9 % (4 * m))] v;omega
  ·obtain ⟨kvs,o5,o6,rfl,sH,gd,gk,ga,gb,RV,OI,gl⟩:=h;rw [List.length_map,Tw] at gl;lcg_off;refine ⟨d,kvs,rfl,gd,fun o=>?_⟩
   have sF:Same H (upd H' d (.frz o (.dT kvs))):=bC sH TJ;have gF:upd H' d (.frz o (.dT kvs)) d = some (.frz o (.dT kvs)):=ak;generalize upd H' d (.frz o (.dT kvs)) = HF at *;refine VM (fun i ys G=>Same HF G/\∃ es:List Ent,Reps G (es.map au) ys/\es.length = i/\es.map (fun e=>([.inr e.1,.inl e.2.1]:List Key)) = (kvs.map (·.1)).take i/\∀ e ∈ es,e.1 ∈ ws/\e.2.1 < 10 ^ 9) (by rw [sizeLine_eq];omega) ⟨Same.refl _,[],by simp only [List.map_nil,Reps],rfl,rfl,fun e h=>(nomatch h)⟩ (fun i ys G h=>?_) (fun i k v b ys G hk hb h=>?_) (fun ys D G h hD=>?_)
   ·obtain ⟨s1,es,h1,h2,h3,h4⟩:=h;exact ⟨s1 _ _ gF,by rw [<- h1.length,List.length_map,h2]⟩
   ·obtain ⟨s1,es,h1,h2,h3,h4⟩:=h;obtain ⟨wd,st,ek,xC,hv⟩:=RV (k,v) (List.mem_of_getElem? hk);dsimp only at ek xC hv;subst ek;refine ⟨.str wd,.int st,rfl,?_⟩;lcg_off;rename_i b2 G2 s2 RL;refine ⟨d,v,rfl,.inr ⟨kvs,[.inr wd,.inl st],b2,.inr ⟨o,by lcg_src⟩,rfl,RL,(BH OI hk).symm⟩,?_⟩;lcg_off;rename_i b4 G4 s4 RI;obtain ⟨ov,Wu⟩:=hv.rep G4;refine ⟨by lcg_sub,es ++ [(wd,st,ov)],?_,by rw [List.length_append,h2];rfl,?_,fun e he=>(List.mem_append.mp he).elim (h4 e) (fun z=>by rw [List.mem_singleton.mp z];exact xC)⟩
    ·rw [List.map_append];exact Reps.snoc ((h1.same s2).same s4) (oy RI Wu)
    ·rw [List.map_append,h3,List.take_succ_eq_append_getElem (by rw [List.length_map];exact (List.getElem?_eq_some_iff.mp hk).1)]
     congr 1
     obtain ⟨eR,e⟩:=List.getElem?_eq_some_iff.mp hk;rw [List.getElem_map,e]
     rfl
   ·obtain ⟨s1,es,h1,h2,h3,h4⟩:=h;rw [List.take_of_length_le (by rw [List.length_map];exact Nat.le_refl _)] at h3;have sD:Same G (upd G D (.lst ys)):=aE hD;refine q D _ ys es (Same.free sF (Same.free s1 hD)) (by lcg_sub) ak (h1.same sD) ?_ (by omega) (fun e he=>(h4 e he).2) (fun e he=>hok _ (h4 e he).1)
    rw [<- h3] at OI;refine bx (f:=fun r:RK=>([.inr r.1,.inl (-r.2)]:List Key)) ?_
    rw [List.map_map];have e:((fun r:RK=>([.inr r.1,.inl (-r.2)]:List Key)) ∘ cW) = fun e:Ent=>([.inr e.1,.inl e.2.1]:List Key):=by
     funext e
     show [Sum.inr e.1,Sum.inl (- -e.2.1)] = _;rw [Int.neg_neg]
    rw [e];exact OI
theorem wA {c:Int} (h0:0 <= m) (hm:m <= 101) (q:∀ p H' (xs:List V) (es:List Ent),H p = none->Same H H'->H' p = some (.lst xs)->Reps H' (es.map au) xs->(es.map cW).Nodup->es.length <= 101->(∀ e ∈ es,e.2.1 < 10 ^ 9)->(∀ e ∈ es,Ff e.1)->Q (.ref p) H'):rg [.int c,.int m] H Q E:=⟨c,m,rfl,h0,hm,q⟩
end
section
def N0 (H:Hp):V->RK
 | .ref a=>match H a with
  | some (.tup (.str k :: .int s :: _))=>(k,-s)
  | _=>(⟨#[]⟩,0)
 | _=>(⟨#[]⟩,0)
theorem kf_at (h:Rep H (au e) v):N0 H v = cW e:=by
 obtain ⟨a,x,rfl,ha,_⟩:=cq h;unfold N0;dsimp only;rw [ha]
 rfl
def bQ (es:List Ent):Prop:=es.Pairwise fun a b=>fX (cW a) (cW b) = true
theorem aX {H:Hp}:∀ {es:List Ent} {xs:List V},Reps H (es.map au) xs->∃ L:List (Ent × V),L.map (·.1) = es/\L.map (·.2) = xs/\∀ t ∈ L,Rep H (au t.1) t.2
 | [],xs,h=>by
  simp only [List.map_nil,Reps] at h;subst h;exact ⟨[],rfl,rfl,fun t h=>(nomatch h)⟩
 | e :: es,xs,h=>by
  simp only [List.map_cons,Reps] at h;obtain ⟨v,r,rfl,h1,h2⟩:=h;obtain ⟨L,l1,l2,l3⟩:=aX h2;refine ⟨(e,v) :: L,by rw [List.map_cons,l1],by rw [List.map_cons,l2],fun t ht=>?_⟩
  rcases List.mem_cons.mp ht with rfl | ht
  ·exact h1
  ·exact l3 t ht
theorem oh {H:Hp}:∀ {L:List (Ent × V)},(∀ t ∈ L,Rep H (au t.1) t.2)->Reps H ((L.map (·.1)).map au) (L.map (·.2))
 | [],_=>by simp only [List.map_nil,Reps]
 | t :: L,h=>by
  simp only [List.map_cons,Reps];exact ⟨_,_,rfl,h t List.mem_cons_self,oh fun u hu=>h u (List.mem_cons_of_mem _ hu)⟩
theorem rj {X : Cx} {pl fa : Addr} (hl : SqL X.K H pl xs) (cC : Reps H (es.map au) xs) (nd : (es.map cW).Nodup) (hz : es.length < 100000) (hk : ∀ e v, Rep H (au e) v -> xg X X.A.in1.in1 (.ref fa) H (N0 H) v)
    (q:∀ xs' dA l H1,dA.Perm es->bQ dA->H l = none->Same H H1->H1 l = some (.lst xs')->Reps H1 (dA.map au) xs'->Q (.ref l) H1):nY X [.ref pl] (.ref fa) H Q:=by
 obtain ⟨L,l1,l2,l3⟩:=aX cC;have Xg:∀ {M:List (Ent × V)},(∀ t ∈ M,Rep H (au t.1) t.2)->(M.map (·.2)).map (N0 H) = (M.map (·.1)).map cW:=fun {M} h=>by
  rw [List.map_map,List.map_map];exact List.map_congr_left fun t ht=>kf_at (h t ht)
 refine ⟨pl,xs,N0 H,fa,rfl,rfl,hl,?_,?_,fun y hy=>?_,fun xs' l H1 pm ri hn s1 h1=>?_⟩
 ·rw [<- l2,List.length_map];rw [<- l1,List.length_map] at hz;exact hz
 ·rw [<- l2,Xg l3,l1];exact nd
 ·rw [<- l2] at hy;obtain ⟨t,ht,rfl⟩:=List.mem_map.mp hy;exact hk t.1 t.2 (l3 t ht)
 ·obtain ⟨L',p1,p2⟩:=perm_lift pm L l2.symm;have LA:∀ t ∈ L',Rep H (au t.1) t.2:=fun t ht=>l3 t (p1.mem_iff.mp ht)
  refine q xs' (L'.map (·.1)) l H1 (by rw [<- l1];exact p1.map _) ?_ hn s1 h1 (by rw [p2];exact oh fun t ht=>(LA t ht).same s1)
  unfold bQ;unfold j5 at ri;rw [p2,List.pairwise_map] at ri;rw [List.pairwise_map];exact ri.imp_of_mem fun {a b} ha hb h=>by
   rw [kf_at (LA a ha),kf_at (LA b hb)] at h;exact h
theorem rp (hp:es.Perm fs) (h1:bQ es) (h2:bQ fs):es = fs:=by
 refine List.Perm.eq_of_pairwise (le:=fun a b=>fX (cW a) (cW b) = true) (fun a b _ _ h h'=>?_) h1 h2 hp
 rw [vV h] at h'
 cases h'
end
section
abbrev Tups (H H':Hp):Prop:=∀ a xs,H a = some (.tup xs)->H' a = some (.tup xs)
theorem nW (s:SameN H H'):Tups H H':=fun a xs e=>s _ _ e (fun _ z=>by cases z)
theorem Rep.tups (s:Tups H H') (h:Rep H (au e) v):Rep H' (au e) v:=by
 obtain ⟨a,x,rfl,ha,hx⟩:=cq h;refine oy (s _ _ ha) ?_
 cases h:e.2.2 with
 | none=>rw [h] at hx;exact hx
 | some z=>rw [h] at hx;exact hx
theorem Reps.tups {H H':Hp} (s:Tups H H'):∀ {es:List Ent} {xs:List V},Reps H (es.map au) xs->Reps H' (es.map au) xs
 | [],xs,h=>by simp only [List.map_nil,Reps] at h ⊢;exact h
 | e :: es,xs,h=>by
  simp only [List.map_cons,Reps] at h ⊢;obtain ⟨v,r,rfl,h1,h2⟩:=h;exact ⟨v,r,rfl,Rep.tups s h1,Reps.tups s h2⟩
theorem Reps.sameN (s:SameN H H') (h:Reps H (es.map au) xs):Reps H' (es.map au) xs:=Reps.tups (nW s) h
def Lz:Pos:=match aS aN with
 | [.Return (some (.Call _ _ [⟨_,.Lambda _ _ _ p,_⟩] _)) _]=>p
 | _=>⟨0,0,0,0⟩
abbrev O6 (H:Hp):Prop:=TabOk qe Lz (Str.ofString "_law_ordered" ++ Str.ofString ".<locals>." ++ Str.ofString "<lambda>") H
def IS (K:W.Frag):Sp:=fun vs H Q _=>∃ (p:Addr) (xs:List V) (es:List Ent),vs = [.ref p]/\H p = some (.lst xs)/\Reps H (es.map au) xs/\(es.map cW).Nodup/\es.length < 1000/\O6 H/\∀ xs' dA l H1,dA.Perm es->bQ dA->SameB qe H H1->O6 H1->H1 l = some (.lst xs')->Reps H1 (dA.map au) xs'->Q (.ref l) H1
theorem mJ:ao ["_law_entries_here"] ["_law_entries_here"] (ab aN):=dE
theorem mQ (T:Txt K mg) (kc:∀ p ∈ tabs,base.BuiltinsAt mg p) (N:Fn K mg "_law_ordered" aN ["_law_entries_here"] f fd) {cd:Addr} (Mb:fd.code = .ref cd) (uQ:W.codeHdIn K cd qe = true) (kIn:K.In base):FnOk P w K mg base bR (5) f fd ["_law_entries_here"] (IS K):=by
 have hB:=kc qe (by simp);refine N.fu.okC mJ (fun vs H Q E h=>?_) (fun aT A outer s H vs Q E RF hr h=>?_)
 ·obtain ⟨p,xs,es,rfl,_⟩:=h
  rfl
 ·obtain ⟨p,xs,es,rfl,hp,cC,nd,hz,ht,q⟩:=h;obtain rfl:aT = Value.ref cd:=RF.symm.trans Mb;have hC:=W.codeHd_of_K kIn uQ;have jF:(Value.ref cd) = Value.ref cd:=rfl;refine ⟨_,(ai (aq (zJ T.b_sorted (af (bv 0) ae rfl) (Mz jF hC hB)))),?_⟩;kas_types;lcg_off;refine ⟨ht,fun f c' H1 hf s1 ue WN TL=>?_⟩
  obtain ⟨qs,hT⟩:=ht.tbl;have SH:=s1.toN hT;have Jw:=SH _ _ hp (fun _ z=>by cases z)
  have wu:=Reps.sameN SH cC;refine rj (SqL.of Jw) wu nd (by omega) (fun e v he=>D3 (k:=1) (N:=["_law_entry"]) (p:="_law_entry") dE (hr.mono (by decide:4 <= 4)).in1.in1 WN TL (fun _ _ _=>rfl) fun s Hi si LU=>?_) (fun xs' dA l H2 a b c d f g=>?_)
  ·obtain ⟨a,x,rfl,ha,hx⟩:=cq he;refine ⟨_,(eV (af (bp aC (bv 0) b_int (fun _ _=>rfl)) (af (EV nN (bp aC (bv 0) b_int (fun _ _=>rfl))) ae rfl) rfl)),?_⟩
   kas_types;lcg_off;rw [kf_at he];exact ⟨_,rfl,by assumption,by assumption⟩
  ·exact q xs' dA l H2 a b (s1.trans (.of d)) (ue.same d) f g
theorem GW (es:List Ent) (hp:H p = some (.lst xs)) (cC:Reps H (es.map au) xs) (nd:(es.map cW).Nodup) (hz:es.length < 1000) (ht:O6 H) (q:∀ xs' dA l H1,dA.Perm es->bQ dA->SameB qe H H1->O6 H1->H1 l = some (.lst xs')->Reps H1 (dA.map au) xs'->Q (.ref l) H1):IS K [.ref p] H Q E:=⟨p,xs,es,rfl,hp,cC,nd,hz,ht,q⟩
end
section
def yS:Sp:=fun vs H Q _=>∃ i,vs = [.int i]/\Q (.bl true) H
theorem qg:ao ["_law_found"] ["_law_found"] (ab dU):=dE
theorem qo (T:Txt K mg) (N:Fn K mg "_law_whole" dU ["_law_found"] f fd):FnOk P w K mg base bR (1) f fd ["_law_found"] (yS):=by
 refine N.fu.okB qg (fun vs H Q E h=>?_) (fun aT A outer s H vs Q E hr h=>?_)
 ·obtain ⟨i,rfl,_⟩:=h
  rfl
 ·obtain ⟨i,rfl,q⟩:=h;refine ⟨_,(ai (aq (EZ (mD dv T.b_isinstance (by kernel_rfl) (af (bv 0) (af (wX (T:="int") T.b_int (by kernel_rfl)) ae rfl) rfl)) (EW (O0 (mD dv T.b_isinstance (by kernel_rfl) (af (bv 0) (af (wX (T:="bool") T.b_bool (by kernel_rfl)) ae rfl) rfl))))))),?_⟩;kas_types;lcg_off;exact q
theorem zR {i:Int} (q:Q (.bl true) H):yS [.int i] H Q E:=⟨i,rfl,q⟩
def IU (K:W.Frag):Sp:=fun vs H Q _=>∃ (p:Addr) (xs:List V) (es:List Ent),vs = [.ref p]/\H p = some (.lst xs)/\Reps H (es.map au) xs/\Q (.bl true) H
theorem dQ:ao ["_law_found","_law_entry"] ["_law_found"] (ab bI):=dE
theorem jE (T:Txt K mg) (N:Fn K mg "_law_all_entries" bI ["_law_found"] f fd):FnOk P w K mg base bR (2) f fd ["_law_found"] (IU K):=by
 obtain ⟨_,_,kZ⟩:=T.f__law_whole;have uJ:=qo (P:=P) (w:=w) (base:=base) T kZ;refine N.fu.okB dQ (fun vs H Q E h=>?_) (fun aT A outer s H vs Q E hr h=>?_)
 ·obtain ⟨p,xs,es,rfl,_⟩:=h
  rfl
 ·obtain ⟨p,xs,es,rfl,hp,cC,q⟩:=h;obtain ⟨L,l1,l2,l3⟩:=aX cC;refine ⟨_,(ag (bh (c8 (cT (mD dv T.b_isinstance (by kernel_rfl) (af (bv 0) (af (wX (T:="list") T.b_list (by kernel_rfl)) ae rfl) rfl)) (fun _=>rfl)))
   (ai (aq jG))
   aA)
  (ag (cF PassesOwn.never rfl (bo (bv 0)) (bA (i:=1) dQ.nd rfl (.inl rfl))
   (ag (bh (hX (gO (c8 (cT (mD dv T.b_isinstance (by kernel_rfl) (af (bv 1) (af (wX (T:="tuple") T.b_tuple (by kernel_rfl)) ae rfl) rfl)) (fun _=>rfl))) (gO (ay (jJ (aH hr)) (mD kQ T.b_len (by kernel_rfl) (af (bv 1) ae rfl)) b_int (az _)) (eU (c8 (cT (mD dv T.b_isinstance (by kernel_rfl) (af (bp aC (bv 1) b_int (fun _ _=>rfl)) (af (wX (T:="str") T.b_str (by kernel_rfl)) ae rfl) rfl)) (fun _=>rfl)))))))
   (ai (aq jG))
   aA)
  (ai (bh (hX (gO (c8 (cT (dB kZ uJ hr.m (af (bp aC (bv 1) b_int (fun _ _=>rfl)) ae rfl)) (fun _=>rfl))) (eU (hX (iQ (ay DL (bp aC (bv 1) b_int (fun _ _=>rfl)) fN (az _)) (fM (c8 (cT (mD dv T.b_isinstance (by kernel_rfl) (af (bp aC (bv 1) b_int (fun _ _=>rfl)) (af (wX (T:="str") T.b_str (by kernel_rfl)) ae rfl) rfl)) (fun _=>rfl)))))))))
   (ai (aq jG))
   aA))))
  (ai (aq jG)))),?_⟩
  kas_types;lcg_off;refine forL (xs:=xs) (fun i σ H'=>∃ (o:Option V),σ = [some (.ref p),o]/\H' = H) ⟨none,rfl,rfl⟩ (fun i σ H' h=>by obtain ⟨_,_,rfl⟩:=h;exact SqL.of hp) (fun i x σ H' hi hx h=>?_) (fun σ H' h=>?_)
  ·obtain ⟨o,rfl,rfl⟩:=h;rw [<- l2,List.getElem?_map] at hx;obtain ⟨t,ht,rfl⟩:=Option.map_eq_some_iff.mp hx;obtain ⟨a,x,ea,ha,hx2⟩:=cq (l3 t (List.mem_of_getElem? ht));rw [ea];lcg_off;rw [if_neg (by simp)];lcg_off;refine zR ?_;lcg_off
   cases ho:t.1.2.2 with
   | none =>
    rw [ho] at hx2;have e:x = .non:=by simpa only [oD,Rep] using hx2
    subst e;lcg_off;exact ⟨_,rfl,rfl⟩
   | some z =>
    rw [ho] at hx2;have e:x = .str z:=by simpa only [oD,Rep] using hx2
    subst e;lcg_off;exact ⟨_,rfl,rfl⟩
  ·obtain ⟨o,rfl,rfl⟩:=h;lcg_off;exact q
theorem IF (es:List Ent) (hp:H p = some (.lst xs)) (cC:Reps H (es.map au) xs) (q:Q (.bl true) H):IU K [.ref p] H Q E:=⟨p,xs,es,rfl,hp,cC,q⟩
theorem wF:∀ {es:List Ent},D.deps (es.map au) <= 1
 | []=>by simp [D.deps]
 | e :: es=>by
  have h:=wF (es:=es);have h1:(au e).dep <= 1:=by
   unfold au
   cases h:e.2.2 <;> simp [oD,D.dep,D.deps]
  simp only [List.map_cons,D.deps];omega
def jB (es:List Ent):D:=.lst (es.map au)
theorem nK:(jB es).dep <= 2:=by
 have h:=wF (es:=es);unfold jB;simp only [D.dep];omega
theorem kr (h:H p = some (.lst xs)) (h2:Reps H (es.map au) xs):Rep H (jB es) (.ref p):=by
 unfold jB;simp only [Rep];exact ⟨p,xs,rfl,h,h2⟩
theorem DQ {xs':List V} (es:List Ent) (h:H p = some (.lst xs)) (h2:Reps H (es.map au) xs) (h':H p' = some (.lst xs')) (h2':Reps H (es.map au) xs') (q:Q (.bl false) H):ql (.ref p) (.ref p') H Q:=by
 have:=nK (es:=es);exact ⟨jB es,jB es,kr h h2,kr h' h2',by omega,by omega,by rw [eI];exact q⟩
def firstM (es:List Ent) (t:Int):Option Ent:=es.find? fun e=>decide (e.2.1 <= t)
def kz (z:Str) (es:List Ent):List Ent:=es.filter fun e=>decide (e.1 = z)
def yY (K:W.Frag):Sp:=fun vs H Q _=>∃ (p:Addr) (xs:List V) (es:List Ent) (z:Str) (t:Int),vs = [.ref p,.str z,.int t]/\H p = some (.lst xs)/\Reps H (es.map au) xs/\∀ v,(match firstM (kz z es) t with | none=>v = .non | some e=>Rep H (au e) v/\v ∈ xs)->Q v H
theorem jH:ao ["_law_entries_here","_law_word","_law_stamp","_law_entry"] ["_law_entries_here","_law_word","_law_stamp"] (ab dX):=dE
theorem qq (T:Txt K mg) (N:Fn K mg "_law_first" dX ["_law_entries_here","_law_word","_law_stamp"] f fd):FnOk P w K mg base bR (2) f fd ["_law_entries_here","_law_word","_law_stamp"] (yY K):=by
 refine N.fu.okB jH (fun vs H Q E h=>?_) (fun aT A outer s H vs Q E hr h=>?_)
 ·obtain ⟨p,xs,es,z,t,rfl,_⟩:=h
  rfl
 ·obtain ⟨p,xs,es,z,t,rfl,hp,cC,q⟩:=h;obtain ⟨L,l1,l2,l3⟩:=aX cC;refine ⟨_,(ag (cF PassesOwn.never rfl (bo (bv 0)) (bA (i:=3) jH.nd rfl (.inl rfl))
   (ai (bh (hX (iQ (ay (fI (aH hr)) (bp aC (bv 3) b_int (fun _ _=>rfl)) (bv 1) (az _)) (fM (ay Hg (bp aC (bv 3) b_int (fun _ _=>rfl)) (bv 2) (az _)))))
   (ai (aq (bv 3)))
   aA)))
  (ai (aq fN))),?_⟩
  kas_types;lcg_off;refine forL (xs:=xs) (fun i σ H'=>∃ (o:Option V),σ = [some (.ref p),some (.str z),some (.int t),o]/\H' = H/\firstM (kz z (es.take i)) t = none) ⟨none,rfl,rfl,rfl⟩ (fun i σ H' h=>by obtain ⟨_,_,rfl,_⟩:=h;exact SqL.of hp) (fun i x σ H' hi hx h=>?_) (fun σ H' h=>?_)
  ·obtain ⟨o,rfl,rfl,hf⟩:=h;have Tj:=hx;rw [<- l2,List.getElem?_map] at hx;obtain ⟨te,ht,rfl⟩:=Option.map_eq_some_iff.mp hx;have jY:=l3 te (List.mem_of_getElem? ht);have A8:es[i]? = some te.1:=by rw [<- l1,List.getElem?_map,ht];rfl
   obtain ⟨kJ,xD⟩:=List.getElem?_eq_some_iff.mp A8;have ue:es.take (i + 1) = es.take i ++ [te.1]:=by rw [List.take_succ_eq_append_getElem kJ,xD]
   obtain ⟨a,x,ea,ha,hx2⟩:=cq jY;rw [ea];lcg_off;refine bJ (fun h0=>?_) (fun h0=>?_)
   ·lcg_off;refine bJ (fun h1=>?_) (fun h1=>?_)
    ·lcg_off;refine q _ ?_;have TC:firstM (kz z es) t = some te.1:=by
      unfold firstM kz at hf ⊢;rw [<- List.take_append_drop (i + 1) es,ue,List.append_assoc,List.filter_append,List.find?_append,hf,Option.none_or,List.singleton_append,List.filter_cons_of_pos (by simpa using h0),List.find?_cons_of_pos (by simpa using h1)]
     rw [TC];exact ⟨ea ▸ jY,ea ▸ List.mem_of_getElem? Tj⟩
    ·lcg_off;refine ⟨_,rfl,rfl,?_⟩;unfold firstM kz at hf ⊢;rw [ue,List.filter_append,List.find?_append,hf,Option.none_or,List.filter_cons_of_pos (by simpa using h0),List.find?_cons_of_neg (by simpa using h1)]
     rfl
   ·lcg_off;refine ⟨_,rfl,rfl,?_⟩;unfold firstM kz at hf ⊢;rw [ue,List.filter_append,List.find?_append,hf,Option.none_or,List.filter_cons_of_neg (by simpa using h0)]
    rfl
  ·obtain ⟨o,rfl,rfl,hf⟩:=h;rw [show xs.length = es.length by rw [<- l1,<- l2,List.length_map,List.length_map],List.take_length] at hf;lcg_off;exact q _ (by rw [hf])
theorem Bi {t:Int} (es:List Ent) (hp:H p = some (.lst xs)) (cC:Reps H (es.map au) xs) (q:∀ v,(match firstM (kz z es) t with | none=>v = .non | some e=>Rep H (au e) v/\v ∈ xs)->Q v H):yY K [.ref p,.str z,.int t] H Q E:=⟨p,xs,es,z,t,rfl,hp,cC,q⟩
end
section
theorem eq_nil (h:H p = some (.lst xs)) (h2:Reps H (es.map au) xs) (h':H p' = some (.lst [])) (q:Q (.bl (decide (es = []))) H):tw (.ref p) (.ref p') H Q:=by
 have e1:=nK (es:=es);refine ⟨jB es,.lst [],kr h h2,by simp only [Rep];exact ⟨p',[],rfl,h',by simp only [Reps]⟩,by omega,by simp [D.dep,D.deps],?_⟩;have e:av (jB es) (.lst []) = decide (es = []):=by
  cases es with
  | nil=>simp [jB,av,cX]
  | cons e r=>simp [jB,av,cX]
 rw [e];exact q
def vk (K:W.Frag):Sp:=fun vs H Q _=>∃ (p:Addr) (c:Int) (xs:List V) (es:List Ent),vs = [.ref p,.int c]/\H p = some (.lst xs)/\Reps H (es.map au) xs/\es.length < 1000/\∀ l H1 (ss:List Int),H l = none->Same H H1->H1 l = some (.lst (ss.map V.int))->ss.Pairwise (fun x y=>x <= y)->(∀ x ∈ ss,x < 10 ^ 9)->ss.length <= 40->Q (.ref l) H1
theorem bW:ao ["_law_entries_here","_law_cell","_law_many_here","_law_xs","_law_stamps_here"] ["_law_entries_here","_law_cell"] (ab bS):=dE
theorem oo (T:Txt K mg) (N:Fn K mg "_law_stamps" bS ["_law_entries_here","_law_cell"] f fd):FnOk P w K mg base bR (3) f fd ["_law_entries_here","_law_cell"] (vk K):=by
 obtain ⟨_,_,aF⟩:=T.f__law_stream;have bb:=cN (P:=P) (w:=w) (base:=base) T aF;refine N.fu.okB bW (fun vs H Q E h=>?_) (fun aT A outer s H vs Q E hr h=>?_)
 ·obtain ⟨p,c,xs,es,rfl,_⟩:=h
  rfl
 ·obtain ⟨p,c,xs,es,rfl,hp,cC,hz,q⟩:=h;have a0:=Int.emod_nonneg c (show (5:Int) ≠ 0 by decide);have a1:=Int.emod_lt_of_pos c (show (0:Int) < 5 by decide);have b0:=Int.emod_nonneg (c / 160) (show (40:Int) ≠ 0 by decide);have b1:=Int.emod_lt_of_pos (c / 160) (show (0:Int) < 40 by decide);refine ⟨_,(ag (aw (i:=2) bW.nd rfl (.inl rfl) (ax bE b_int (ax aP (bv 1) b_int)))
  (ag (bh (ay (fI (aH hr)) (ax aP (ax aJ (bv 1) b_int) b_int) b_int (az _))
   (ai (aw (i:=2) bW.nd rfl (.inl rfl) (ax bE b_int (ax aP (ax aJ (bv 1) b_int) b_int))))
   aA)
  (ag (aw (i:=3) bW.nd rfl (.inl rfl) (dB aF bb hr.m (af (bv 1) (af (bv 2) ae rfl) rfl)))
  (ag (bh (hX (gO (ay (fI (aH hr)) (bv 0) (fO ae) (az _)) (eU (ay (fI (aH hr)) (ax aP (ax aJ (bv 1) b_int) b_int) b_int (az _)))))
   (ai (aq (fO ae)))
   aA)
  (ag (wU (x:="_law_x") (ix:=[0]) (fv:=["_law_entries_here"]) (osc:=ab bS) rfl ⟨rfl,by decide +kernel,by decide +kernel,by rfl,by decide +kernel,by decide +kernel,by decide +kernel⟩ (by rfl) (bo (bv 3)) (fun _ _ _ _=>hZ) (fun _ _ _ _=>(ax lD (ax (Lq (K:=K) rfl) (bp (eh (K:=K) rfl) (bp (eh (K:=K) rfl) (bv 1) (ax aP (ax aJ (bv 0) b_int) (mD (Mt (K:=K) rfl) T.b_len (by kernel_rfl) (af (bv 1) ae rfl))) (fun _ _=>rfl)) b_int (fun _ _=>rfl)) (ax aP (ax aJ (bv 0) b_int) b_int)) b_int)) (iy:=4) bW.nd rfl (.inl rfl))
  (ai (aq (mD Ir T.b_sorted (by kernel_rfl) (af (IA Mp T.b_set (by kernel_rfl) (af (wY (x:="_law_stamp") (ix:=[]) (fv:=[]) (osc:=ab bS) rfl ⟨rfl,by decide +kernel,by decide +kernel,by rfl,by decide +kernel,by decide +kernel,by decide +kernel⟩ (by rfl) (bo (bv 4)) (fun _ _ _ _=>hZ) (fun _ _ _ _=>(mD (JG rfl) T.b_min (by kernel_rfl) (af (mD (JH rfl) T.b_max (by kernel_rfl) (af b_int (af (bv 0) ae rfl) rfl)) (af (ax lD (ax ym b_int b_int) b_int) ae rfl) rfl)))) ae rfl)) ae rfl))))))))),?_⟩
  kas_types;lcg_off;refine oC (fun σ' H'=>∃ m:Int,0 <= m/\m <= 40/\σ' = [some (.ref p),some (.int c),some (.int m),none,none]/\H' = H) (fun σ' H' h=>?_) (fun h3 nx hx=>?_) (fun h3 nx hx=>?_)
  ·obtain ⟨m,m0,m1,rfl,rfl⟩:=h;lcg_off;refine eJ m0 (by omega) (fun px Hx ns Z5 sx hx Tv PN=>?_)
   lcg_off;rename_i pe He Jv se he;refine eq_nil (se _ _ (sx _ _ hp)) ((cC.same sx).same se) he ⟨_,rfl,?_⟩;have MI:Same H' He:=by lcg_sub
   have Ws:=MI _ _ hp;have Ox:=cC.same MI;have V1:=se _ _ hx;clear he Jv
   by_cases c0:es = []
   ·rw [if_pos (decide_eq_true c0)];lcg_off;rename_i pr Hr Rg sr hr;exact q pr Hr [] (Same.free MI Rg) (Same.tr sr MI) hr List.Pairwise.nil (fun x h=>(nomatch h)) (Nat.zero_le _)
   rw [if_neg (by simpa using c0)];lcg_off;refine bJ (fun c1=>?_) (fun c1=>?_)
   ·lcg_off;rename_i pr Hr Rg sr hr;exact q pr Hr [] (Same.free MI Rg) (Same.tr sr MI) hr List.Pairwise.nil (fun x h=>(nomatch h)) (Nat.zero_le _)
   lcg_off;have Oy:0 < es.length:=List.length_pos_iff.mpr c0;have xB:xs.length = es.length:=by have:=Ox.length;rw [List.length_map] at this;omega
   obtain ⟨L,l1,l2,l3⟩:=aX Ox;refine AN (xs:=ns.map V.int) (fun i us F=>Same He F/\∃ ms:List Int,us = ms.map V.int/\ms.length = i) (by rw [List.length_map,Tv,sizeLine_eq];omega) ⟨Same.refl _,[],rfl,rfl⟩ (fun i us F h=>⟨SqL.of (h.1 _ _ V1),by obtain ⟨_,ms,rfl,e⟩:=h;rw [List.length_map,e]⟩) (fun i v us F hv h=>?_) (fun us pu F F1 h Ju sF hF=>?_)
   ·obtain ⟨f1,ms,rfl,f2⟩:=h;rw [List.getElem?_map] at hv;obtain ⟨y,hy,rfl⟩:=Option.map_eq_some_iff.mp hv;lcg_off;refine nE (SqL.of (f1 _ _ Ws)) (Int.emod_nonneg _ (by omega)) (Int.emod_lt_of_pos _ (by omega)) (fun u hu=>?_)
    rw [<- l2] at hu;obtain ⟨te,ud,rfl⟩:=List.mem_map.mp hu;obtain ⟨a,x,ea,ha,hx2⟩:=cq ((l3 te ud).same f1);rw [ea];lcg_off;exact ⟨f1,ms ++ [_],by rw [List.map_append];rfl,by rw [List.length_append,f2];rfl⟩
   obtain ⟨f1,ms,rfl,f2⟩:=h;have YU:Same H' F1:=by lcg_sub
   rw [List.length_map] at f2;clear sF f1 l3;lcg_off;refine AN (xs:=ms.map V.int) (fun i us G=>Same F1 G/\∃ ks:List Int,us = ks.map V.int/\ks.length = i/\∀ k ∈ ks,k < 10 ^ 9) (by rw [List.length_map,f2,Tv,sizeLine_eq];omega) ⟨Same.refl _,[],rfl,rfl,fun k h=>(nomatch h)⟩ (fun i us G h=>⟨SqL.of (h.1 _ _ hF),by obtain ⟨_,ms,rfl,e,_⟩:=h;rw [List.length_map,e]⟩) (fun i v us G hv h=>?_) (fun us pk G G1 h Tt sG hG=>?_)
   ·obtain ⟨g1,ks,rfl,g2,g3⟩:=h;rw [List.getElem?_map] at hv;obtain ⟨y,hy,rfl⟩:=Option.map_eq_some_iff.mp hv;lcg_off;refine ⟨g1,ks ++ [_],by rw [List.map_append];rfl,by rw [List.length_append,g2];rfl,fun k hk=>?_⟩
    rcases List.mem_append.mp hk with h1 | h1
    ·exact g3 k h1
    ·rw [List.mem_singleton.mp h1,show (10:Int) ^ Int.toNat 9 = 10 ^ 9 from rfl];omega
   obtain ⟨g1,ks,rfl,g2,g3⟩:=h;rw [List.length_map] at g2;have SD:Same H' G1:=by lcg_sub
   clear sG g1;lcg_off;refine FP ks (SqL.of hG) (by omega) (fun pl G2 lL s2 h2=>?_);lcg_off;have ol:=SW.onces_le ks;refine C1 _ h2 (by omega) (fun zs pz G3 pm hs Wo s3 h3=>?_);lcg_off;refine q pz G3 zs (Same.free SD (Same.free s2 Wo)) (Same.tr s3 (Same.tr s2 SD)) h3 hs (fun x hx=>?_) ?_
   ·exact g3 x ((SW.onces_mem _ _).mp (pm.mem_iff.mp hx))
   ·rw [pm.length_eq];omega
  ·lcg_off;exact hx _ _ ⟨_,by omega,by omega,rfl,rfl⟩
  ·lcg_off;exact hx _ _ ⟨_,by omega,by omega,rfl,rfl⟩
theorem xQ {c:Int} (es:List Ent) (hp:H p = some (.lst xs)) (cC:Reps H (es.map au) xs) (hz:es.length < 1000) (q:∀ l H1 (ss:List Int),H l = none->Same H H1->H1 l = some (.lst (ss.map V.int))->ss.Pairwise (fun x y=>x <= y)->(∀ x ∈ ss,x < 10 ^ 9)->ss.length <= 40->Q (.ref l) H1):vk K [.ref p,.int c] H Q E:=⟨p,c,xs,es,rfl,hp,cC,hz,q⟩
end
section
def DO (f:Int) (n:Int) (c:Nat):Int:=(n * f + (c:Int)) % 1000003
def mY (f:Int) (cs:List Nat):Int:=cs.foldl (DO f) 7
def Mu (sz:Int) (z:Str) (b f:Int):Int:=Builtin.bitOr b (1 * 2 ^ (mY f z.cps.toList % sz).toNat)
def jV (sz:Int) (b:Int) (z:Str):Int:=([31,37,41]:List Int).foldl (Mu sz z) b
def inner:Stmt:=match aS dS with
 | d :: _=>d
 | _=>.Pass ⟨0,0,0,0⟩
abbrev N7:Pos:=match inner with
 | .FunctionDef _ _ _ _ _ _ _ _ _ p=>p
 | _=>⟨0,0,0,0⟩
abbrev zr:Str:=Str.ofString "probe" ++ Str.ofString ".<locals>." ++ Str.ofString "place_of"
abbrev aL (H:Hp):Prop:=TabOk aB N7 zr H
abbrev FA:Sp:=IT aB N7 "place_of" zr (cD inner) (aS inner) (ab inner) "factor"
theorem CP:ao ["factor","place_of"] ["factor"] (ab dS):=dE
theorem fm:p9 ["key","size","number","sign","factor"] ["key","size"] "factor" 4 (ab inner):=⟨rfl,rfl,rfl,by decide +kernel,rfl,by decide +kernel,by decide +kernel,rfl,by decide +kernel,rfl,by decide⟩
theorem Bp (env:Env) (cc:Addr) (h:env.cells.lookup (Str.ofString "factor") = some cc):closureFor (ab inner) env = pure [(Str.ofString "factor",cc)]:=by
 have e:(ab inner).names = ([(Str.ofString "key",NameKind.local),(Str.ofString "size",NameKind.local),(Str.ofString "number",NameKind.local),(Str.ofString "sign",NameKind.local),(Str.ofString "factor",NameKind.free),(Str.ofString "FIRST_NUMBER",NameKind.globalImplicit),(Str.ofString "ord",NameKind.globalImplicit),(Str.ofString "MODULUS",NameKind.globalImplicit)]:List (Str × NameKind)):=by rfl
 unfold closureFor;rw [e];simp [cellOf,h]
theorem DK (T:Txt K mg) (kc:∀ p ∈ tabs,base.BuiltinsAt mg p) (N:Fn K mg "probe" dS ["factor"] f fd) {cd:Addr} (Mb:fd.code = .ref cd) (uQ:W.codeHdIn K cd aB = true) (kIn:K.In base):FnOk P w K mg base bR 1 f fd ["factor"] FA:=by
 exact Mm (k:=0) N.fu CP rfl rfl (by decide) (np:=_) (rpos:=_) rfl rfl rfl (fun _=>rfl) Bp (fun _ _=>rfl) (by decide) Mb (W.codeHd_of_K kIn uQ) (kc aB (by simp))
end
section
def aK (z:Str) (sz:Int):List Int:=([31,37,41]:List Int).map fun f=>mY f z.cps.toList % sz
theorem As {fa : Int} {ff c' cc : Addr} (T : Txt K mg) (hz : 0 < sz) (MW : -(2 ^ 64) < fa /\ fa < 2 ^ 64) (h1 : H ff = some (.ext (qa "place_of" zr (cD inner) (aS inner) (ab inner) [("factor", cc)] ff c'))) (h2 : H c' = some (.ext (fj zr c'))) (h3 : H cc = some (.ext (yP (.int fa) cc)))
    (q:Q (.int (mY fa z.cps.toList % sz)) H):zM P w K mg base 1 ff [.str z,.int sz] H Q:=by
 refine CU (k:=0) (R:=fun v=>v = .int (mY fa z.cps.toList % sz)) fm h1 h2 h3 (fun us doc pm iP hl=>match us,hl with | [_,_],_=>rfl) rfl (fun A outer s hr=>?_) (fun v hv=>by rw [hv];exact q)
 generalize del H cc = H0;refine ⟨_,(ag (aw (i:=2) fm.nd rfl (.inl rfl) (yJ T.g_FIRST_NUMBER))
  (ag (cF PassesOwn.never rfl (Mx (bv 0)) (bA (i:=3) fm.nd rfl (.inl rfl))
   (ai (aw (i:=2) fm.nd rfl (.inl rfl) (ax aP (ax bE (ax rG (bv 2) (bv 4)) (mD EH T.b_ord (by kernel_rfl) (af (bv 3) ae rfl))) (yJ T.g_MODULUS)))))
  (ai (aq (ax aP (bv 2) (bv 1)))))),?_⟩
 kas_types;show BX _ _ _ [some (.str z),some (.int sz),none,none,some (.int fa)] H0;lcg_off;refine R0 (z:=z) (fun k σ F=>∃ (o3:Option V),σ = [some (.str z),some (.int sz),some (.int ((z.cps.toList.take k).foldl (DO fa) 7)),o3,some (.int fa)]/\F = H0)
  ⟨none,rfl,rfl⟩ (fun k ch σ F hk uQ h=>?_) (fun σ F h=>?_)
 ·obtain ⟨o3,rfl,rfl⟩:=h;obtain ⟨Ou,WI⟩:=List.getElem?_eq_some_iff.mp uQ;have Jz:(z.cps.toList.take (k + 1)).foldl (DO fa) 7 = DO fa ((z.cps.toList.take k).foldl (DO fa) 7) ch:=by
   rw [List.take_succ_eq_append_getElem Ou,WI,List.foldl_append]
   rfl
  lcg_off;refine ⟨_,rfl,rfl,?_⟩;lcg_off;refine ⟨some (.str ⟨#[ch]⟩),?_,rfl⟩;rw [Jz]
  rfl
 ·obtain ⟨o3,rfl,rfl⟩:=h;rw [List.take_length];lcg_off;exact ⟨rfl,rfl⟩
def vm (K:W.Frag):Sp:=fun vs H Q _=>∃ (z:Str) (sz:Int),vs = [.str z,.int sz]/\0 < sz/\aL H/\∀ l H1,H l = none->SameB aB H H1->aL H1->H1 l = some (.lst ((aK z sz).map V.int))->Q (.ref l) H1
theorem sW:ao ["key","size"] ["key","size"] (ab dn):=dE
theorem kA (T:Txt K mg) (kc:∀ p ∈ tabs,base.BuiltinsAt mg p) (kIn:K.In base) (N:Fn K mg "places_of" dn ["key","size"] f fd):FnOk P w K mg base bR (2) f fd ["key","size"] (vm K):=by
 obtain ⟨_,_,_,zO,A7,Ba⟩:=T.c_probe;have IJ:=DK (P:=P) (w:=w) (base:=base) T kc zO A7 Ba kIn;obtain ⟨Bu,yC,oO⟩:=T.g_FACTORS;refine N.fu.okB sW (fun vs H Q E h=>?_) (fun aT A outer s H vs Q E hr h=>?_)
 ·obtain ⟨z,sz,rfl,_⟩:=h
  rfl
 ·obtain ⟨z,sz,rfl,hz,ht,q⟩:=h;refine ⟨_,(ai (aq (wY (x:="factor") (ix:=[0,1]) (fv:=["key","size"]) (osc:=ab dn) rfl ⟨rfl,by decide +kernel,by decide +kernel,by rfl,by decide +kernel,by decide +kernel,by decide +kernel⟩ (by rfl) (yF (yJ yC)) (fun _ _ _ _=>hZ) (fun _ _ _ _=>(ID rfl rfl rfl rfl rfl (hr.mono (by first | decide | omega):Room 1 _) (dB zO IJ hr.m (af (bv 0) ae rfl)) (af (bv 1) (af (bv 2) ae rfl) rfl)))))),?_⟩
  kas_types;lcg_off;refine ⟨Bu,rfl,⟨_,oO H⟩,?_⟩;refine NX (xs:=[.int 31,.int 37,.int 41]) (fun i us F=>SameB aB H F/\aL F/\us = ((aK z sz).take i).map V.int/\i <= 3) (by simp [sizeLine_eq]) ⟨SameB.refl,ht,rfl,by decide⟩ (fun i us F h=>⟨oO F,by rw [h.2.2.1,List.length_map,List.length_take];have:=h.2.2.2;simp [aK];omega⟩) (fun i v us F hv h=>?_) (fun us pu F F1 h Ju sF hF=>?_)
  ·obtain ⟨f1,f2,rfl,_⟩:=h;obtain ⟨fa,MW,rfl⟩:∃ fa:Int,([31,37,41]:List Int)[i]? = some fa/\v = .int fa:=by
    have e:([.int 31,.int 37,.int 41]:List V) = ([31,37,41]:List Int).map V.int:=rfl;rw [e,List.getElem?_map] at hv;obtain ⟨fa,h1,h2⟩:=Option.map_eq_some_iff.mp hv;exact ⟨fa,h1,h2.symm⟩
   have hf3:fa = 31 \/ fa = 37 \/ fa = 41:=by simpa using List.mem_of_getElem? MW
   have kJ:=(List.getElem?_eq_some_iff.mp MW).1;have lL:(aK z sz)[i]? = some (mY fa z.cps.toList % sz):=by
    unfold aK;rw [List.getElem?_map,MW]
    rfl
   obtain ⟨LY,LX⟩:=List.getElem?_eq_some_iff.mp lL;lcg_off;refine ⟨.int fa,rfl,f2,fun ff c' cc H1 TC oK s1 t1 h1 h2 h3=>?_⟩
   refine ⟨ff,rfl,⟨_,_,_,_,_,_,_,h1⟩,?_⟩;lcg_off;refine ⟨⟨_,_,_,_,_,_,_,h1⟩,As T hz (by omega) h1 h2 h3 ?_⟩;refine ⟨f1.trans s1,t1,?_,kJ⟩;rw [List.take_succ_eq_append_getElem LY,LX,List.map_append]
   rfl
  obtain ⟨f1,f2,rfl,_⟩:=h;obtain ⟨ps,hT⟩:=f2.tbl;refine q pu F1 ?_ (f1.trans (.of sF)) (f2.same sF) (by rw [hF];rfl)
  cases e:H pu with
  | none=>rfl
  | some o =>
   by_cases n:pu = aB
   ·rw [n,hT] at Ju
    cases Ju
   ·rw [f1 _ _ e n] at Ju
    cases Ju
theorem oe (hz:0 < sz) (ht:aL H) (q:∀ l H1,H l = none->SameB aB H H1->aL H1->H1 l = some (.lst ((aK z sz).map V.int))->Q (.ref l) H1):vm K [.str z,.int sz] H Q E:=⟨z,sz,rfl,hz,ht,q⟩
theorem Bt (a b:Nat):Builtin.bitOr (a:Int) (b:Int) = ((a ||| b:Nat):Int):=by
 have e1:Builtin.bitNot (Builtin.bitNot (a:Int)) = a:=by unfold Builtin.bitNot;omega
 have e2:Builtin.bitNot (Builtin.bitNot (b:Int)) = b:=by unfold Builtin.bitNot;omega
 have n1:decide (0 <= Builtin.bitNot (a:Int)) = false:=by unfold Builtin.bitNot;simp;omega
 have n2:decide (0 <= Builtin.bitNot (b:Int)) = false:=by unfold Builtin.bitNot;simp;omega
 unfold Builtin.bitOr;rw [Builtin.bitAnd,n1,n2];dsimp only;rw [e1,e2];unfold Builtin.bitNot;simp only [Int.toNat_natCast];omega
theorem EN (n k:Nat):decide (Builtin.bitAnd ((n:Int) / 2 ^ k) 1 = 1) = n.testBit k:=by
 have e:((n:Int) / 2 ^ k) = ((n / 2 ^ k:Nat):Int):=by rw [Int.natCast_ediv];simp
 rw [e,Builtin.bitAnd];have n1:decide (0 <= ((n / 2 ^ k:Nat):Int)) = true:=decide_eq_true (Int.natCast_nonneg _);rw [n1,show decide (0 <= (1:Int)) = true by decide];dsimp only;rw [Int.toNat_natCast,show (1:Int).toNat = 1 from rfl,Nat.and_one_is_mod,Nat.testBit_eq_decide_div_mod_eq]
 congr 1
 simp only [eq_iff_iff];omega
def qu (bt:Int) (pl:List Int):Bool:=pl.all fun p=>decide (Builtin.bitAnd (bt / 2 ^ p.toNat) 1 = 1)
theorem pI {f:Int}:∃ m:Nat,Mu sz z (n:Int) f = m/\m.testBit (mY f z.cps.toList % sz).toNat = true/\∀ k,n.testBit k = true->m.testBit k = true:=by
 refine ⟨n ||| 2 ^ (mY f z.cps.toList % sz).toNat,?_,?_,fun k hk=>?_⟩
 ·unfold Mu;rw [Int.one_mul,show ((2:Int) ^ (mY f z.cps.toList % sz).toNat) = ((2 ^ (mY f z.cps.toList % sz).toNat:Nat):Int) by simp,Bt]
 ·rw [Nat.testBit_or,Nat.testBit_two_pow_self,Bool.or_true]
 ·rw [Nat.testBit_or,hk,Bool.true_or]
theorem D7:∃ m:Nat,jV sz (n:Int) z = m/\(∀ p ∈ aK z sz,m.testBit p.toNat = true)/\∀ k,n.testBit k = true->m.testBit k = true:=by
 obtain ⟨m1,a1,a2,a3⟩:=pI (sz:=sz) (z:=z) (n:=n) (f:=31);obtain ⟨m2,b1,b2,b3⟩:=pI (sz:=sz) (z:=z) (n:=m1) (f:=37);obtain ⟨m3,c1,c2,c3⟩:=pI (sz:=sz) (z:=z) (n:=m2) (f:=41);refine ⟨m3,?_,fun p hp=>?_,fun k hk=>c3 _ (b3 _ (a3 _ hk))⟩
 ·unfold jV;rw [List.foldl_cons,List.foldl_cons,List.foldl_cons,List.foldl_nil,a1,b1,c1]
 ·simp only [aK,List.map_cons,List.map_nil,List.mem_cons,List.not_mem_nil,or_false] at hp
  rcases hp with rfl | rfl | rfl
  ·exact c3 _ (b3 _ a2)
  ·exact c3 _ b2
  ·exact c2
theorem vt {sz:Int}:∀ (zs:List Str) (n:Nat),∃ m:Nat,zs.foldl (jV sz) (n:Int) = m/\(∀ z ∈ zs,∀ p ∈ aK z sz,m.testBit p.toNat = true)/\∀ k,n.testBit k = true->m.testBit k = true
 | [],n=>⟨n,rfl,fun z h=>(nomatch h),fun k h=>h⟩
 | z :: zs,n=>by
  obtain ⟨m1,a1,a2,a3⟩:=D7 (sz:=sz) (z:=z) (n:=n);obtain ⟨m2,b1,b2,b3⟩:=vt zs m1;refine ⟨m2,by rw [List.foldl_cons,a1,b1],fun y hy p hp=>?_,fun k hk=>b3 _ (a3 _ hk)⟩
  rcases List.mem_cons.mp hy with rfl | hy
  ·exact b3 _ (a2 p hp)
  ·exact b2 y hy p hp
end
section
def Cw (K:W.Frag):Sp:=fun vs H Q _=>∃ (t:Addr) (z:Str) (sz bt:Int),vs = [.ref t,.str z]/\H t = some (.tup [.int sz,.int bt])/\0 < sz/\0 <= bt/\aL H/\∀ H1,SameB aB H H1->aL H1->Q (.bl (qu bt (aK z sz))) H1
theorem me:ao ["sieve","key","bits"] ["sieve","key"] (ab eK):=dE
theorem iG (T:Txt K mg) (kc:∀ p ∈ tabs,base.BuiltinsAt mg p) (kIn:K.In base) (N:Fn K mg "may_have" eK ["sieve","key"] f fd):FnOk P w K mg base bR (3) f fd ["sieve","key"] (Cw K):=by
 obtain ⟨_,_,dw⟩:=T.f_places_of;have iV:=kA (P:=P) (w:=w) (base:=base) T kc kIn dw;refine N.fu.okB me (fun vs H Q E h=>?_) (fun aT A outer s H vs Q E hr h=>?_)
 ·obtain ⟨t,z,sz,bt,rfl,_⟩:=h
  rfl
 ·obtain ⟨t,z,sz,bt,rfl,ht,hz,hb,tok,q⟩:=h;have zv:∀ p ∈ aK z sz,0 <= p:=fun p hp=>by
   obtain ⟨f,_,rfl⟩:=List.mem_map.mp hp;exact Int.emod_nonneg _ (by omega)
  have lL:(aK z sz).length = 3:=rfl;refine ⟨_,(ag (aw (i:=2) me.nd rfl (.inr rfl) (bp aC (bv 0) b_int (fun _ _=>rfl)))
  (ai (aq (mD (OW rfl) T.b_all (by kernel_rfl) (af (wY (x:="place") (ix:=[2]) (fv:=["bits"]) (osc:=ab eK) rfl ⟨rfl,by decide +kernel,by decide +kernel,by rfl,by decide +kernel,by decide +kernel,by decide +kernel⟩ (by rfl) (bo (dB dw iV hr.m (af (bv 1) (af (bp aC (bv 0) b_int (fun _ _=>rfl)) ae rfl) rfl))) (fun _ _ _ _=>hZ) (fun _ _ _ _=>(zL (fI (aH hr)) (ax Lk (ax Lf (bv 1) (bv 0)) b_int) b_int (az _)))) ae rfl))))),?_⟩
  kas_types;lcg_off;refine oe hz tok (fun l H1 hl s1 t1 h1=>?_);generalize aK z sz = pl at *;lcg_off;refine AN (xs:=pl.map V.int) (fun i us F=>Same H1 F/\us = ((pl.take i).map fun p=>V.bl (decide (Builtin.bitAnd (bt / 2 ^ p.toNat) 1 = 1)))/\i <= 3) (by rw [List.length_map,lL,sizeLine_eq];omega) ⟨Same.refl _,rfl,by decide⟩ (fun i us F h=>⟨SqL.of (h.1 _ _ h1),by rw [h.2.1,List.length_map,List.length_take];have:=h.2.2;omega⟩) (fun i v us F hv h=>?_) (fun us pu F F1 h Ju sF hF=>?_)
  ·obtain ⟨f1,rfl,_⟩:=h;rw [List.getElem?_map] at hv;obtain ⟨p,hp,rfl⟩:=Option.map_eq_some_iff.mp hv;have Z7:=zv p (List.mem_of_getElem? hp);obtain ⟨LY,LX⟩:=List.getElem?_eq_some_iff.mp hp;lcg_off;refine ⟨f1,?_,by omega⟩;rw [List.take_succ_eq_append_getElem LY,LX,List.map_append]
   rfl
  ·obtain ⟨f1,rfl,_⟩:=h;rw [List.length_map,List.take_length] at hF;lcg_off;have W6:F1 pu = some (.lst ((pl.map fun p=>decide (Builtin.bitAnd (bt / 2 ^ p.toNat) 1 = 1)).map V.bl)):=by rw [List.map_map];exact hF
   refine KI _ (SqL.of W6) ?_;have e:(pl.map fun p=>decide (Builtin.bitAnd (bt / 2 ^ p.toNat) 1 = 1)).all id = qu bt pl:=by
    unfold qu;rw [List.all_map]
    rfl
   rw [e];exact q _ (s1.trans (.of (Same.tr sF f1))) (t1.same (Same.tr sF f1))
theorem tT {bt:Int} (ht:H t = some (.tup [.int sz,.int bt])) (hz:0 < sz) (hb:0 <= bt) (tok:aL H) (q:∀ H1,SameB aB H H1->aL H1->Q (.bl (qu bt (aK z sz))) H1):Cw K [.ref t,.str z] H Q E:=⟨t,z,sz,bt,rfl,ht,hz,hb,tok,q⟩
def Fc (ks:List Str):Int:=8 * max 1 ((SW.onces ks).length:Int)
def qZ (K:W.Frag):Sp:=fun vs H Q _=>∃ (p:Addr) (ks:List Str),vs = [.ref p]/\H p = some (.lst (ks.map V.str))/\ks.length < 1000/\aL H/\∀ t H1,SameB aB H H1->aL H1->H1 t = some (.tup [.int (Fc ks),.int (ks.foldl (jV (Fc ks)) 0)])->Q (.ref t) H1
theorem cH:ao ["keys","size","bits","key","place"] ["keys"] (ab gY):=dE
theorem vI (T:Txt K mg) (kc:∀ p ∈ tabs,base.BuiltinsAt mg p) (kIn:K.In base) (N:Fn K mg "sieve_of" gY ["keys"] f fd):FnOk P w K mg base bR (3) f fd ["keys"] (qZ K):=by
 obtain ⟨_,_,dw⟩:=T.f_places_of;have iV:=kA (P:=P) (w:=w) (base:=base) T kc kIn dw;refine N.fu.okB cH (fun vs H Q E h=>?_) (fun aT A outer s H vs Q E hr h=>?_)
 ·obtain ⟨p,ks,rfl,_⟩:=h
  rfl
 ·obtain ⟨p,ks,rfl,hp,hl,tok,q⟩:=h;have ol:=SW.onces_le ks;have OY:(Builtin.Int.intBits 1:Int) = 1:=by decide +kernel
  refine ⟨_,(ag (aw (i:=1) cH.nd rfl (.inl rfl) (ax rG b_int (mD (JH rfl) T.b_max (by kernel_rfl) (af b_int (af (mD Mr T.b_len (by kernel_rfl) (af (IA Mo T.b_set (by kernel_rfl) (af (bv 0) ae rfl)) ae rfl)) ae rfl) rfl))))
  (ag (aw (i:=2) cH.nd rfl (.inl rfl) b_int)
  (ag (cF PassesOwn.never rfl (bo (bv 0)) (bA (i:=3) cH.nd rfl (.inl rfl))
   (ai (cF PassesOwn.never rfl (bo (dB dw iV hr.m (af (bv 3) (af (bv 1) ae rfl) rfl))) (bA (i:=4) cH.nd rfl (.inl rfl))
   (ai (aw (i:=2) cH.nd rfl (.inl rfl) (ax NM (bv 2) (ax NP b_int (bv 4))))))))
  (ai (aq (eV (af (bv 1) (af (bv 2) ae rfl) rfl))))))),?_⟩
  kas_types;lcg_off;refine FO ks (SqL.of hp) (by omega) (fun pl H1 lL s1 h1=>?_);lcg_off;refine FV _ h1 ?_;lcg_off;obtain ⟨ps,hT⟩:=tok.tbl;have hz:(0:Int) < 8 * max 1 ((SW.onces ks).length:Int):=by omega
  have ZZ:8 * max 1 ((SW.onces ks).length:Int) < 10000:=by omega
  rw [show 8 * max 1 ((SW.onces ks).length:Int) = Fc ks from rfl] at *;generalize Fc ks = sz at *;have Jw:=s1 _ _ hp;refine forL (xs:=ks.map V.str) (fun i σ H'=>∃ (o3 o4:Option V),σ = [some (.ref p),some (.int sz),some (.int ((ks.take i).foldl (jV sz) 0)),o3,o4]/\SameB aB H H'/\aL H')
   ⟨none,none,rfl,.of s1,tok.same s1⟩ (fun i σ H' h=>by obtain ⟨_,_,_,a,_⟩:=h;exact SqL.of (a.toN hT _ _ hp (fun _ z=>by cases z))) (fun i x σ H' hi hx h=>?_) (fun σ H' h=>?_)
  ·obtain ⟨o3,o4,rfl,g1,g2⟩:=h;rw [List.getElem?_map] at hx;obtain ⟨z,QW,rfl⟩:=Option.map_eq_some_iff.mp hx;obtain ⟨VW,VX⟩:=List.getElem?_eq_some_iff.mp QW;have ue:(ks.take (i + 1)).foldl (jV sz) 0 = jV sz ((ks.take i).foldl (jV sz) 0) z:=by
    rw [List.take_succ_eq_append_getElem VW,VX,List.foldl_append]
    rfl
   generalize (ks.take i).foldl (jV sz) 0 = b0 at *;lcg_off;refine oe hz g2 (fun l H2 A4 s2 t2 h2=>?_);have zv:∀ q ∈ aK z sz,0 <= q/\q < sz:=fun q hq=>by
    obtain ⟨f,_,rfl⟩:=List.mem_map.mp hq;exact ⟨Int.emod_nonneg _ (by omega),Int.emod_lt_of_pos _ (by omega)⟩
   lcg_off;refine forL (xs:=(aK z sz).map V.int) (fun j σ F=>∃ (o4:Option V),σ = [some (.ref p),some (.int sz),some (.int (((aK z sz).take j).foldl (fun b q=>Builtin.bitOr b (1 * 2 ^ q.toNat)) b0)),some (.str z),o4]/\F = H2)
    ⟨_,rfl,rfl⟩ (fun j σ F h=>by obtain ⟨_,_,rfl⟩:=h;exact SqL.of h2) (fun j x σ F hj hx h=>?_) (fun σ F h=>?_)
   ·obtain ⟨o4,rfl,rfl⟩:=h;rw [List.getElem?_map] at hx;obtain ⟨q,hq,rfl⟩:=Option.map_eq_some_iff.mp hx;obtain ⟨Wm,Wn⟩:=List.getElem?_eq_some_iff.mp hq;obtain ⟨q0,q1⟩:=zv q (List.mem_of_getElem? hq);have WJ:((aK z sz).take (j + 1)).foldl (fun b q=>Builtin.bitOr b (1 * 2 ^ q.toNat)) b0 = Builtin.bitOr (((aK z sz).take j).foldl (fun b q=>Builtin.bitOr b (1 * 2 ^ q.toNat)) b0) (1 * 2 ^ q.toNat):=by
     rw [List.take_succ_eq_append_getElem Wm,Wn,List.foldl_append]
     rfl
    lcg_off;refine FN ⟨q0,by rw [OY];omega⟩ ?_;lcg_off;refine ⟨some (.int q),?_,rfl⟩;rw [WJ]
   ·obtain ⟨o4,rfl,rfl⟩:=h;refine ⟨some (.str z),o4,?_,g1.trans s2,t2⟩;rw [ue,List.length_map,List.take_length]
    rfl
  ·obtain ⟨o3,o4,rfl,g1,g2⟩:=h;rw [List.length_map,List.take_length];lcg_off;rename_i t Ht st ht;exact q t Ht (g1.trans (.of st)) (g2.same st) ht
theorem vq (ks:List Str) (hp:H p = some (.lst (ks.map V.str))) (hl:ks.length < 1000) (tok:aL H) (q:∀ t H1,SameB aB H H1->aL H1->H1 t = some (.tup [.int (Fc ks),.int (ks.foldl (jV (Fc ks)) 0)])->Q (.ref t) H1):qZ K [.ref p] H Q E:=⟨p,ks,rfl,hp,hl,tok,q⟩
end
section
def J0:Sp:=fun vs H Q _=>∃ (v:V) (e:Ent),vs = [v]/\Rep H (au e) v/\∀ p H',Same H H'->H' p = some (.tup [.str (cW e).1,.int (cW e).2])->Q (.ref p) H'
theorem x4:ao ["entry"] ["entry"] (ab jh):=dE
theorem yq (T:Txt K mg) (N:Fn K mg "rank_of" jh ["entry"] f fd):FnOk P w K mg base bR (1) f fd ["entry"] (J0):=by
 refine N.fu.okB x4 (fun vs H Q E h=>?_) (fun aT A outer s H vs Q E hr h=>?_)
 ·obtain ⟨v,e,rfl,_⟩:=h
  rfl
 ·obtain ⟨v,e,rfl,he,q⟩:=h;obtain ⟨a,x,rfl,ha,hx⟩:=cq he;refine ⟨_,(ai (aq (eV (af (bp aC (bv 0) b_int (fun _ _=>rfl)) (af (EV nN (bp aC (bv 0) b_int (fun _ _=>rfl))) ae rfl) rfl)))),?_⟩
  kas_types;lcg_off;exact q _ _ (by assumption) (by assumption)
def yV (K:W.Frag):Sp:=fun vs H Q _=>∃ (p:Addr) (xs:List V) (es:List Ent),vs = [.ref p]/\H p = some (.lst xs)/\Reps H (es.map au) xs/\(es.map cW).Nodup/\es.length < 1000/\∀ xs' dA l H1,dA.Perm es->bQ dA->H l = none->Same H H1->H1 l = some (.lst xs')->Reps H1 (dA.map au) xs'->Q (.ref l) H1
theorem vv:ao ["entries"] ["entries"] (ab gZ):=dE
theorem mf (T:Txt K mg) (N:Fn K mg "in_order" gZ ["entries"] f fd):FnOk P w K mg base bR (4) f fd ["entries"] (yV K):=by
 obtain ⟨_,_,l0⟩:=T.f_rank_of;have Bw:=yq (P:=P) (w:=w) (base:=base) T l0;refine N.fu.okB vv (fun vs H Q E h=>?_) (fun aT A outer s H vs Q E hr h=>?_)
 ·obtain ⟨p,xs,es,rfl,_⟩:=h
  rfl
 ·obtain ⟨p,xs,es,rfl,hp,cC,nd,hz,q⟩:=h;refine ⟨_,(ai (aq (zJ T.b_sorted (af (bv 0) ae rfl) (yJ (v:=.ref _) ⟨_,l0.mgx,rfl⟩)))),?_⟩;kas_types;lcg_off;refine rj (SqL.of hp) cC nd (by omega) (fun e v he=>HJ (k:=1) l0 Bw (hr.mono (by decide:3 <= 3)).in1.in1 fun H1 s1 R hR=>⟨v,e,rfl,he.same s1,fun a H2 s2 h2=>?_⟩) (fun xs' dA l H1 a b c d f g=>q xs' dA l H1 a b c d f g)
  rw [<- kf_at he] at h2;exact hR a H2 s2 h2
theorem rC (es:List Ent) (hp:H p = some (.lst xs)) (cC:Reps H (es.map au) xs) (nd:(es.map cW).Nodup) (hz:es.length < 1000) (q:∀ xs' dA l H1,dA.Perm es->bQ dA->H l = none->Same H H1->H1 l = some (.lst xs')->Reps H1 (dA.map au) xs'->Q (.ref l) H1):yV K [.ref p] H Q E:=⟨p,xs,es,rfl,hp,cC,nd,hz,q⟩
def fV (es:List Ent):Int:=Fc (es.map (·.1))
def iB (es:List Ent):Int:=(es.map (·.1)).foldl (jV (Fc (es.map (·.1)))) 0
def IQ (K:W.Frag):Sp:=fun vs H Q _=>∃ (p:Addr) (xs:List V) (es:List Ent),vs = [.ref p]/\H p = some (.tup xs)/\Reps H (es.map au) xs/\es.length < 1000/\aL H/\∀ t H1,SameB aB H H1->aL H1->H1 t = some (.tup [.int (fV es),.int (iB es)])->Q (.ref t) H1
theorem jA:ao ["entries"] ["entries"] (ab bf):=dE
theorem jD (T:Txt K mg) (kc:∀ p ∈ tabs,base.BuiltinsAt mg p) (kIn:K.In base) (N:Fn K mg "sieve_of_entries" bf ["entries"] f fd):FnOk P w K mg base bR (4) f fd ["entries"] (IQ K):=by
 obtain ⟨_,_,pQ⟩:=T.f_sieve_of;have yN:=vI (P:=P) (w:=w) (base:=base) T kc kIn pQ;refine N.fu.okB jA (fun vs H Q E h=>?_) (fun aT A outer s H vs Q E hr h=>?_)
 ·obtain ⟨p,xs,es,rfl,_⟩:=h
  rfl
 ·obtain ⟨p,xs,es,rfl,hp,cC,hz,tok,q⟩:=h;have Ri:=cC.length;rw [List.length_map] at Ri;refine ⟨_,(ai (aq (dB pQ yN hr.m (af (wY (x:="entry") (ix:=[]) (fv:=[]) (osc:=ab bf) rfl ⟨rfl,by decide +kernel,by decide +kernel,by rfl,by decide +kernel,by decide +kernel,by decide +kernel⟩ (by rfl) (yF (bv 0)) (fun _ _ _ _=>hZ) (fun _ _ _ _=>(bp (eh (K:=K) rfl) (bv 0) b_int (fun _ _=>rfl)))) ae rfl)))),?_⟩
  kas_types;lcg_off;refine NX (xs:=xs) (fun i us F=>F = H/\us = ((es.take i).map (·.1)).map V.str/\i <= es.length) (by rw [<- Ri,sizeLine_eq];omega) ⟨rfl,rfl,Nat.zero_le _⟩ (fun i us F h=>⟨by rw [h.1];exact SqT.of hp,by rw [h.2.1,List.length_map,List.length_map,List.length_take];have:=h.2.2;omega⟩) (fun i v us F hv h=>?_) (fun us pu F F1 h Ju sF hF=>?_)
  ·obtain ⟨rfl,rfl,f3⟩:=h;obtain ⟨e,he,V6⟩:=cC.at hv;obtain ⟨kJ,xD⟩:=List.getElem?_eq_some_iff.mp he;obtain ⟨c,x,ec,hc,hx⟩:=cq V6;rw [ec];lcg_off;exact ⟨rfl,by rw [List.take_succ_eq_append_getElem kJ,xD,List.map_append,List.map_append];rfl,kJ⟩
  obtain ⟨rfl,rfl,_⟩:=h;rw [<- Ri,List.take_length] at hF;lcg_off;refine vq (es.map (·.1)) hF (by rw [List.length_map];exact hz) (tok.same sF) (fun t H1 s1 t1 ht=>?_)
  exact q t H1 ((SameB.of sF).trans s1) t1 ht
theorem FD (es:List Ent) (hp:H p = some (.tup xs)) (cC:Reps H (es.map au) xs) (hz:es.length < 1000) (tok:aL H) (q:∀ t H1,SameB aB H H1->aL H1->H1 t = some (.tup [.int (fV es),.int (iB es)])->Q (.ref t) H1):IQ K [.ref p] H Q E:=⟨p,xs,es,rfl,hp,cC,hz,tok,q⟩
def yU (K:W.Frag):Sp:=fun vs H Q _=>∃ (p:Addr) (xs:List V) (es:List Ent),vs = [.ref p]/\H p = some (.lst xs)/\Reps H (es.map au) xs/\(es.map cW).Nodup/\es.length < 1000/\aL H/\∀ r t pu xs' dA H1,dA.Perm es->bQ dA->SameB aB H H1->aL H1->H1 r = some (.tup [.ref t,.ref pu])->H1 t = some (.tup [.int (fV dA),.int (iB dA)])->H1 pu = some (.tup xs')->Reps H1 (dA.map au) xs'->Q (.ref r) H1
theorem rl:ao ["entries","ordered"] ["entries"] (ab kn):=dE
theorem AE (T:Txt K mg) (kc:∀ p ∈ tabs,base.BuiltinsAt mg p) (kIn:K.In base) (N:Fn K mg "run_of" kn ["entries"] f fd):FnOk P w K mg base bR (5) f fd ["entries"] (yU K):=by
 obtain ⟨_,_,eX⟩:=T.f_in_order;have j7:=mf (P:=P) (w:=w) (base:=base) T eX;obtain ⟨_,_,eW⟩:=T.f_sieve_of_entries;have j6:=jD (P:=P) (w:=w) (base:=base) T kc kIn eW;refine N.fu.okB rl (fun vs H Q E h=>?_) (fun aT A outer s H vs Q E hr h=>?_)
 ·obtain ⟨p,xs,es,rfl,_⟩:=h
  rfl
 ·obtain ⟨p,xs,es,rfl,hp,cC,nd,hz,tok,q⟩:=h;refine ⟨_,(ag (aw (i:=1) rl.nd rfl (.inl rfl) (IA Iq T.b_tuple (by kernel_rfl) (af (dB eX j7 hr.m (af (bv 0) ae rfl)) ae rfl)))
  (ai (aq (eV (af (dB eW j6 hr.m (af (bv 1) ae rfl)) (af (bv 1) ae rfl) rfl))))),?_⟩
  kas_types;lcg_off;refine rC es hp cC nd hz (fun xs' dA l H1 pm rise hl s1 h1 wu=>?_);lcg_off;refine Am (SqL.of h1) (fun pu H2 Ju s2 h2=>?_);lcg_off;have WH:=pm.length_eq;have t2:=tok.same (Same.tr s2 s1);refine FD dA h2 (wu.same s2) (by omega) t2 (fun t H3 s3 t3 h3=>?_);obtain ⟨qs,hT⟩:=t2.tbl;have SG:=s3.toN hT;lcg_off;rename_i r H4 s4 h4;refine q r t pu xs' dA H4 pm rise (((SameB.of (Same.tr s2 s1)).trans s3).trans (.of s4)) (t3.same s4) h4 (s4 _ _ h3) (s4 _ _ (SG _ _ h2 (fun _ z=>by cases z))) ((Reps.sameN SG (wu.same s2)).same s4)
theorem Al (es:List Ent) (hp:H p = some (.lst xs)) (cC:Reps H (es.map au) xs) (nd:(es.map cW).Nodup) (hz:es.length < 1000) (tok:aL H) (q:∀ r t pu xs' dA H1,dA.Perm es->bQ dA->SameB aB H H1->aL H1->H1 r = some (.tup [.ref t,.ref pu])->H1 t = some (.tup [.int (fV dA),.int (iB dA)])->H1 pu = some (.tup xs')->Reps H1 (dA.map au) xs'->Q (.ref r) H1):yU K [.ref p] H Q E:=⟨p,xs,es,rfl,hp,cC,nd,hz,tok,q⟩
end
section
theorem aI {vs:List V} (h:Reps H (es.map au) vs) (t:Tups H H'):Reps H' (es.map au) vs:=Reps.tups t h
theorem Et (h:Rep H (au e) v) (t:Tups H H'):Rep H' (au e) v:=Rep.tups t h
theorem Tups.of (s:Same H H'):Tups H H':=fun b xs e=>s b _ e
theorem Tups.trans (s:Tups H H') (t:Tups H' M8):Tups H M8:=fun b xs e=>t b _ (s b _ e)
theorem Tups.upd {o:HO} (h:∀ xs,H l ≠ some (.tup xs)):Tups H (upd H l o):=fun b xs e=>by rw [aj (fun z=>by rw [z] at e;exact h xs e)];exact e
theorem DM {o:Option Str} {x:V} (h:Rep H (oD o) x):Rep H' (oD o) x:=by
 cases o with
 | none=>simp only [oD,Rep] at h ⊢;exact h
 | some z=>simp only [oD,Rep] at h ⊢;exact h
theorem D9 {p:Prop} [Decidable p] {A B:Prop} (h:p) (a:A):if p then A else B:=by rw [if_pos h];exact a
theorem rO {p:Prop} [Decidable p] {A B:Prop} (h:¬ p) (b:B):if p then A else B:=by rw [if_neg h];exact b
def kF (z:Str) (t:Int) (o:Option Ent) (e:Ent):Option Ent:=if (decide (e.1 = z) && decide (e.2.1 <= t) && (match o with | none=>true | some f=>decide (f.2.1 < e.2.1))) = true then some e else o
theorem rJ {t:Int} (h0:e.1 = z) (h1:e.2.1 <= t):kF z t none e = some e:=by simp [kF,h0,h1]
theorem rH {t:Int} {f:Ent} (h0:e.1 = z) (h1:e.2.1 <= t) (h2:f.2.1 < e.2.1):kF z t (some f) e = some e:=by simp [kF,h0,h1,h2]
theorem ot {t:Int} {o:Option Ent} (h0:¬ e.1 = z):kF z t o e = o:=by simp [kF,h0]
theorem zj {t:Int} {o:Option Ent} (h1:¬ e.2.1 <= t):kF z t o e = o:=by unfold kF;rw [decide_eq_false h1];simp
theorem vO {t:Int} {f:Ent} (h2:¬ f.2.1 < e.2.1):kF z t (some f) e = some f:=by unfold kF;exact if_neg (by simp [h2])
def bU (z:Str) (t:Int) (es:List Ent):Option Ent:=es.foldl (kF z t) none
theorem vN {t:Int} (h:∀ e ∈ es,e.1 ≠ z):bU z t es = none:=by
 unfold bU
 induction es with
 | nil=>rfl
 | cons e r ih =>
  rw [List.foldl_cons,ot (h e List.mem_cons_self)];exact ih fun f hf=>h f (List.mem_cons_of_mem _ hf)
def oE:Option Ent->L2.D
 | none=>.non
 | some e=>au e
def jq (lo:Str) (hi:Option Str) (e:Ent):Bool:=!decide (e.1.cps.toList < lo.cps.toList) && (match hi with | none=>true | some h=>decide (e.1.cps.toList < h.cps.toList))
theorem ub {hi:Option Str} (h:decide (e.1.cps.toList < lo.cps.toList) = true):jq lo hi e = false:=by
 unfold jq;rw [h]
 rfl
theorem wc (h:decide (e.1.cps.toList < lo.cps.toList) = false):jq lo none e = true:=by
 unfold jq;rw [h]
 rfl
theorem kH {hz:Str} (h:decide (e.1.cps.toList < lo.cps.toList) = false):jq lo (some hz) e = decide (e.1.cps.toList < hz.cps.toList):=by
 unfold jq;rw [h]
 rfl
def yA:Option Str->V
 | none=>.non
 | some z=>.str z
theorem rX {f:Ent->Bool}:(es ++ [e]).filter f = es.filter f ++ if f e = true then [e] else []:=by
 rw [List.filter_append]
 cases h:f e <;> simp [h]
def vn (K:W.Frag):Sp:=fun vs H Q _=>∃ (p:Addr) (z:Str) (t:Int) (xs:List V) (es:List Ent),vs = [.ref p,.str z,.int t]/\(H p = some (.lst xs) \/ H p = some (.tup xs))/\Reps H (es.map au) xs/\∀ v,Rep H (oE (bU z t es)) v->Q v H
theorem jg:ao ["entries","key","stamp","found","entry"] ["entries","key","stamp"] (ab kq):=dE
theorem rF (T:Txt K mg) (N:Fn K mg "newest" kq ["entries","key","stamp"] f fd):FnOk P w K mg base bR (1) f fd ["entries","key","stamp"] (vn K):=by
 refine N.fu.okB jg (fun vs H Q E h=>?_) (fun aT A outer s H vs Q E hr h=>?_)
 ·obtain ⟨p,z,t,xs,es,rfl,_⟩:=h
  rfl
 ·obtain ⟨p,z,t,xs,es,rfl,hp,cC,q⟩:=h;obtain ⟨L,l1,l2,l3⟩:=aX cC;have xB:xs.length = es.length:=by rw [<- l1,<- l2,List.length_map,List.length_map]
  refine ⟨_,(ag (aw (i:=3) jg.nd rfl (.inl rfl) fN)
  (ag (cF PassesOwn.never rfl (EO (bv 0)) (bA (i:=4) jg.nd rfl (.inl rfl))
   (ai (bh (hX (iQ (ay (fI (aH hr)) (bp aC (bv 4) b_int (fun _ _=>rfl)) (bv 1) (az _)) (fM (ay Hg (bp aC (bv 4) b_int (fun _ _=>rfl)) (bv 2) (az _)))))
   (ai (bh (hX (gO (ay Lp (bv 3) fN (az _)) (eU (ay Jf (bp aC (bv 4) b_int (fun _ _=>rfl)) (bp aC (bv 3) b_int (fun _ _=>rfl)) (az _)))))
   (ai (aw (i:=3) jg.nd rfl (.inl rfl) (bv 4)))
   aA))
   aA)))
  (ai (aq (bv 3))))),?_⟩
  kas_types;lcg_off;refine Ii hp rfl (fun i σ H'=>∃ (v:V) (o:Option V),σ = [some (.ref p),some (.str z),some (.int t),some v,o]/\H' = H/\Rep H (oE (bU z t (es.take i))) v) ⟨.non,none,rfl,rfl,by simp only [List.take_zero,bU,List.foldl_nil,oE,Rep]⟩ (fun i σ H' h=>by obtain ⟨_,_,_,rfl,_⟩:=h;exact Same.refl _) (fun i x σ H' hi hx h=>?_) (fun σ H' h=>?_)
  ·obtain ⟨v,o,rfl,rfl,hv⟩:=h;rw [<- l2,List.getElem?_map] at hx;obtain ⟨te,ud,rfl⟩:=Option.map_eq_some_iff.mp hx;have jY:=l3 te (List.mem_of_getElem? ud);have A8:es[i]? = some te.1:=by rw [<- l1,List.getElem?_map,ud];rfl
   obtain ⟨kJ,xD⟩:=List.getElem?_eq_some_iff.mp A8;have ue:bU z t (es.take (i + 1)) = kF z t (bU z t (es.take i)) te.1:=by
    unfold bU;rw [List.take_succ_eq_append_getElem kJ,xD,List.foldl_append]
    rfl
   generalize bU z t (es.take i) = om at *;obtain ⟨c,x,ec,hc,hx2⟩:=cq jY;rw [ec] at jY;rw [ec];lcg_off;refine bJ (fun h0=>?_) (fun h0=>?_)
   ·lcg_off;refine bJ (fun h1=>?_) (fun h1=>?_)
    ·lcg_off
     cases om with
     | none =>
      have e:v = .non:=by simpa only [oE,Rep] using hv
      subst e;lcg_off;refine ⟨_,_,rfl,rfl,?_⟩;rw [ue,rJ h0 h1];exact jY
     | some f =>
      obtain ⟨c1,x1,rfl,TL,Z0⟩:=cq (show Rep H' (au f) v from hv);lcg_off;refine bJ (fun h2=>?_) (fun h2=>?_)
      ·lcg_off;refine ⟨_,_,rfl,rfl,?_⟩;rw [ue,rH h0 h1 h2];exact jY
      ·lcg_off;refine ⟨_,_,rfl,rfl,?_⟩;rw [ue,vO h2];exact hv
    ·lcg_off;refine ⟨_,_,rfl,rfl,?_⟩;rw [ue,zj h1];exact hv
   ·rw [if_neg (by simp)];lcg_off;refine ⟨_,_,rfl,rfl,?_⟩;rw [ue,ot h0];exact hv
  ·obtain ⟨v,o,rfl,rfl,hv⟩:=h;rw [xB,List.take_length] at hv;lcg_off;exact q v hv
theorem oq {t:Int} (es:List Ent) (hp:(H p = some (.lst xs) \/ H p = some (.tup xs))) (cC:Reps H (es.map au) xs) (q:∀ v,Rep H (oE (bU z t es)) v->Q v H):vn K [.ref p,.str z,.int t] H Q E:=⟨p,z,t,xs,es,rfl,hp,cC,q⟩
def qY (K:W.Frag):Sp:=fun vs H Q _=>∃ (p:Addr) (lo:Str) (hi:Option Str) (xs:List V) (es:List Ent),vs = [.ref p,.str lo,yA hi]/\(H p = some (.lst xs) \/ H p = some (.tup xs))/\Reps H (es.map au) xs/\es.length < 1000/\∀ l H1 ys,H l = none->Same H H1->H1 l = some (.lst ys)->Reps H1 ((es.filter (jq lo hi)).map au) ys->Q (.ref l) H1
theorem xZ:ao ["entries","low","high"] ["entries","low","high"] (ab gA):=dE
theorem oj (T:Txt K mg) (N:Fn K mg "stretch" gA ["entries","low","high"] f fd):FnOk P w K mg base bR (1) f fd ["entries","low","high"] (qY K):=by
 refine N.fu.okB xZ (fun vs H Q E h=>?_) (fun aT A outer s H vs Q E hr h=>?_)
 ·obtain ⟨p,lo,hi,xs,es,rfl,_⟩:=h
  rfl
 ·obtain ⟨p,lo,hi,xs,es,rfl,hp,cC,hz,q⟩:=h;obtain ⟨L,l1,l2,l3⟩:=aX cC;have xB:xs.length = es.length:=by rw [<- l1,<- l2,List.length_map,List.length_map]
  refine ⟨_,(ai (aq (wY (x:="entry") (ix:=[1,2]) (fv:=["low","high"]) (osc:=ab gA) rfl ⟨rfl,by decide +kernel,by decide +kernel,by rfl,by decide +kernel,by decide +kernel,by decide +kernel⟩ (by rfl) (EO (bv 0)) (fun _ _ _ _=>(ES (hX (iQ (ay Hg (bv 1) (bp (eh (K:=K) rfl) (bv 0) b_int (fun _ _=>rfl)) (az _)) (fM (hX (gO (ay Lp (bv 2) fN (az _)) (eU (ay Hf (bp (eh (K:=K) rfl) (bv 0) b_int (fun _ _=>rfl)) (bv 2) (az _)))))))))) (fun _ _ _ _=>(bv 0))))),?_⟩
  kas_types;lcg_off;refine HE hp rfl (fun i us F=>Same H F/\Reps F (((es.take i).filter (jq lo hi)).map au) us/\us.length <= i) (by rw [xB,sizeLine_eq];omega) ⟨Same.refl _,by simp only [List.take_zero,List.filter_nil,List.map_nil,Reps],Nat.le_refl _⟩ (fun i us F h=>⟨h.1,h.2.2⟩) (fun i v us F hv h=>?_) (fun us Qv F F1 h Rh sF hF=>?_)
  ·obtain ⟨f1,f2,f3⟩:=h;rw [<- l2,List.getElem?_map] at hv;obtain ⟨te,ud,rfl⟩:=Option.map_eq_some_iff.mp hv;have A8:es[i]? = some te.1:=by rw [<- l1,List.getElem?_map,ud];rfl
   obtain ⟨kJ,xD⟩:=List.getElem?_eq_some_iff.mp A8;have jY:=(l3 te (List.mem_of_getElem? ud)).same f1;obtain ⟨c,x,ec,hc,hx⟩:=cq jY;rw [ec] at jY;rw [ec];have ue:(es.take (i + 1)).filter (jq lo hi) = (es.take i).filter (jq lo hi) ++ if jq lo hi te.1 = true then [te.1] else []:=by rw [List.take_succ_eq_append_getElem kJ,xD,rX]
   have yes:jq lo hi te.1 = true->Same H F/\Reps F (((es.take (i + 1)).filter (jq lo hi)).map au) (us ++ [.ref c])/\(us ++ [V.ref c]).length <= i + 1:=fun hy=>by
    refine ⟨f1,?_,by rw [List.length_append];simp;omega⟩;rw [ue,if_pos hy,List.map_append];exact Reps.snoc f2 jY
   have no:jq lo hi te.1 = false->Same H F/\Reps F (((es.take (i + 1)).filter (jq lo hi)).map au) us/\us.length <= i + 1:=fun hn=>by
    refine ⟨f1,?_,by omega⟩;rw [ue,if_neg (by rw [hn];simp),List.append_nil];exact f2
   cases hi with
   | none =>
    dsimp only [yA];lcg_off;refine t8 (fun h0=>?_) (fun h0=>?_)
    ·lcg_off;exact yes (wc h0)
    ·rw [if_neg (by simp)];exact no (ub h0)
   | some hz =>
    dsimp only [yA];lcg_off;refine t8 (fun h0=>?_) (fun h0=>?_)
    ·lcg_off;refine Jm (fun h1=>?_) (fun h1=>?_)
     ·lcg_off;exact yes ((kH h0).trans h1)
     ·exact no ((kH h0).trans h1)
    ·rw [if_neg (by simp)];exact no (ub h0)
  obtain ⟨f1,f2,_⟩:=h;rw [xB,List.take_length] at f2;exact q Qv F1 us (Same.free f1 Rh) (Same.tr sF f1) hF (f2.same sF)
theorem ma (hi:Option Str) (es:List Ent) (hp:(H p = some (.lst xs) \/ H p = some (.tup xs))) (cC:Reps H (es.map au) xs) (hz:es.length < 1000) (q:∀ l H1 ys,H l = none->Same H H1->H1 l = some (.lst ys)->Reps H1 ((es.filter (jq lo hi)).map au) ys->Q (.ref l) H1):qY K [.ref p,.str lo,yA hi] H Q E:=⟨p,lo,hi,xs,es,rfl,hp,cC,hz,q⟩
end
section
abbrev GS:=List (Str × Addr × List Ent)
def flat (g:GS):List Ent:=g.flatMap (·.2.2)
def Inner (H:Hp) (b:Addr) (es:List Ent):Prop:=∃ kvs,H b = some (.dK kvs)/\kvs.map (·.1) = es.map (fun e=>(Sum.inl e.2.1:Key))/\Reps H (es.map au) (kvs.map (·.2))
def dR (g:GS):List (Key × V):=g.map fun q=>(.inr q.1,.ref q.2.1)
structure HandAt (c:Cs) (H:Hp) (a t:Addr) (g:GS):Prop where
 ins:∃ dx,H a = some (.ins c.Hand dx [("kept",.ref t)])
 tab:H t = some (.dK (dR g))
 own:∀ q ∈ g,Inner H q.2.1 q.2.2
structure GOk (t:Addr) (g:GS):Prop where
 keys:(g.map (·.1)).Nodup
 ads:(t :: g.map (·.2.1)).Nodup
 ent:∀ q ∈ g,(∀ e ∈ q.2.2,e.1 = q.1)/\(q.2.2.map (·.2.1)).Nodup/\q.2.2 ≠ []
def fp (a t:Addr) (g:GS):List Addr:=a :: t :: g.map (·.2.1)
def Chg (S:List Addr) (H H':Hp):Prop:=∀ b o,b ∉ S->H b = some o->H' b = some o
theorem Chg.of (s:Same H H'):Chg S H H':=fun b o _ e=>s b o e
theorem Chg.trans (h:Chg S H H') (h':Chg S H' M8):Chg S H M8:=fun b o n e=>h' b o n (h b o n e)
theorem Chg.upd {o:HO} (h:l ∈ S):Chg S H (upd H l o):=fun b u n e=>by rw [aj (fun z=>n (by rw [z];exact h))];exact e
theorem Inner.stay {b:Addr} (h:Inner H b es) (k:∀ o,H b = some o->H' b = some o) (t:Tups H H'):Inner H' b es:=by
 obtain ⟨kvs,h1,h2,h3⟩:=h;exact ⟨kvs,k _ h1,h2,aI h3 t⟩
section
variable {g:GS}
theorem HandAt.same (h:HandAt c H a t g) (s:Same H H'):HandAt c H' a t g:=⟨h.ins.imp fun _ e=>s _ _ e,s _ _ h.tab,fun q hq=>(h.own q hq).stay (fun o e=>s _ _ e) (.of s)⟩
theorem HandAt.kind (h:HandAt c H a t g) {b:Addr} (hb:b ∈ fp a t g):(∃ dx fs,H b = some (.ins c.Hand dx fs)) \/ ∃ kvs,H b = some (.dK kvs):=by
 unfold fp at hb
 rcases List.mem_cons.mp hb with rfl | hb
 ·exact .inl (h.ins.imp fun _ e=>⟨_,e⟩)
 ·rcases List.mem_cons.mp hb with rfl | hb
  ·exact .inr ⟨_,h.tab⟩
  ·obtain ⟨q,hq,rfl⟩:=List.mem_map.mp hb;obtain ⟨kvs,h1,_⟩:=h.own q hq;exact .inr ⟨kvs,h1⟩
theorem HandAt.notT (h:HandAt c H a t g) {b:Addr} (e:H b = some (.tup xs)):b ∉ fp a t g:=fun hb=>by
 rcases h.kind hb with ⟨_,_,z⟩ | ⟨_,z⟩ <;> (rw [z] at e;cases e)
theorem HandAt.notN (h:HandAt c H a t g) {b:Addr} (e:H b = none):b ∉ fp a t g:=fun hb=>by
 rcases h.kind hb with ⟨_,_,z⟩ | ⟨_,z⟩ <;> (rw [z] at e;cases e)
theorem HandAt.tups (h:HandAt c H a t g) (k:Chg (fp a t g) H H'):Tups H H':=fun b xs e=>k b _ (h.notT e) e
theorem HandAt.other (h:HandAt c H a t g) (k:Chg S H H') (tu:Tups H H') (d:∀ b ∈ fp a t g,b ∉ S):HandAt c H' a t g:=by
 refine ⟨h.ins.imp fun _ e=>k _ _ (d _ ?_) e,k _ _ (d _ ?_) h.tab,fun q hq=>(h.own q hq).stay (fun o e=>k _ _ (d _ ?_) e) tu⟩
 ·exact List.mem_cons_self
 ·exact List.mem_cons_of_mem _ List.mem_cons_self
 ·exact List.mem_cons_of_mem _ (List.mem_cons_of_mem _ (List.mem_map.mpr ⟨q,hq,rfl⟩))
theorem x9 {f:Ent} (k:cW e = cW f):e.1 = f.1:=congrArg (fun r:RK=>r.1) k
theorem Nl {f:Ent} (k:cW e = cW f):e.2.1 = f.2.1:=by have h:-e.2.1 = -f.2.1:=congrArg (fun r:RK=>r.2) k;omega
theorem gG:e ∈ flat g ↔ ∃ q ∈ g,e ∈ q.2.2:=by unfold flat;rw [List.mem_flatMap]
theorem GOk.nd (h:GOk t g):((flat g).map cW).Nodup:=by
 have h1:=h.keys;have h3:=h.ent;clear h
 induction g with
 | nil=>exact List.Pairwise.nil
 | cons q r ih =>
  rw [List.map_cons,List.nodup_cons] at h1;have e:(flat (q :: r)).map cW = q.2.2.map cW ++ (flat r).map cW:=by simp only [flat,List.flatMap_cons,List.map_append]
  rw [e,List.nodup_append];obtain ⟨a1,a2,_⟩:=h3 q List.mem_cons_self;refine ⟨?_,ih h1.2 fun p hp=>h3 p (List.mem_cons_of_mem _ hp),?_⟩
  ·refine bx (f:=fun k:RK=>-k.2) ?_;rw [List.map_map];refine (List.map_congr_left (fun e _=>?_)) ▸ a2;show e.2.1 = -(-e.2.1);omega
  ·intro x hx y hy Xe;obtain ⟨e,he,rfl⟩:=List.mem_map.mp hx;obtain ⟨f,hf,rfl⟩:=List.mem_map.mp hy;obtain ⟨p,hp,WM⟩:=gG.mp hf;have k1:=a1 e he;have k2:=(h3 p (List.mem_cons_of_mem _ hp)).1 f WM;have k3:e.1 = f.1:=x9 Xe;exact h1.1 (List.mem_map.mpr ⟨p,hp,by rw [<- k2,<- k3,k1]⟩)
theorem GOk.one (h:GOk t g) {q':Str × Addr × List Ent} (hq:q ∈ g) (nI:q' ∈ g) (e:q.1 = q'.1):q = q':=by
 have h1:=h.keys;clear h
 induction g with
 | nil=>cases hq
 | cons p r ih =>
  rw [List.map_cons,List.nodup_cons] at h1
  rcases List.mem_cons.mp hq with rfl | Of
  ·rcases List.mem_cons.mp nI with rfl | LV
   ·rfl
   ·exact (h1.1 (List.mem_map.mpr ⟨q',LV,e.symm⟩)).elim
  ·rcases List.mem_cons.mp nI with rfl | LV
   ·exact (h1.1 (List.mem_map.mpr ⟨q,Of,e⟩)).elim
   ·exact ih Of LV h1.2
theorem GOk.oneA (h:GOk t g) {q':Str × Addr × List Ent} (hq:q ∈ g) (nI:q' ∈ g) (e:q.2.1 = q'.2.1):q = q':=by
 have h1:=(List.nodup_cons.mp h.ads).2;clear h
 induction g with
 | nil=>cases hq
 | cons p r ih =>
  rw [List.map_cons,List.nodup_cons] at h1
  rcases List.mem_cons.mp hq with rfl | Of
  ·rcases List.mem_cons.mp nI with rfl | LV
   ·rfl
   ·exact (h1.1 (List.mem_map.mpr ⟨q',LV,e.symm⟩)).elim
  ·rcases List.mem_cons.mp nI with rfl | LV
   ·exact (h1.1 (List.mem_map.mpr ⟨q,Of,e⟩)).elim
   ·exact ih Of LV h1.2
theorem vW (h:GOk t g):g.length <= (flat g).length:=by
 have h3:=h.ent;clear h
 induction g with
 | nil=>exact Nat.le_refl _
 | cons q r ih =>
  have h4:=(h3 q List.mem_cons_self).2.2;have h5:=ih fun p hp=>h3 p (List.mem_cons_of_mem _ hp)
  have e:(flat (q :: r)).length = q.2.2.length + (flat r).length:=by simp only [flat,List.flatMap_cons,List.length_append]
  have h6:=List.length_pos_iff.mpr h4;rw [e,List.length_cons];omega
theorem lG (hq:q ∈ g):q.2.2.length <= (flat g).length:=by
 induction g with
 | nil=>cases hq
 | cons p r ih =>
  have e:(flat (p :: r)).length = p.2.2.length + (flat r).length:=by simp only [flat,List.flatMap_cons,List.length_append]
  rcases List.mem_cons.mp hq with rfl | hq
  ·omega
  ·have:=ih hq;omega
theorem zY:(dR g).map (·.1) = (g.map (·.1)).map Sum.inr:=by
 unfold dR;rw [List.map_map,List.map_map]
 rfl
theorem uW (h:GOk t g) (hq:q ∈ g):dC (dR g) (.inr q.1) = some (.ref q.2.1):=by
 refine uY ?_ (List.mem_map.mpr ⟨q,hq,rfl⟩);rw [zY];exact List.Pairwise.map (R:=fun a b:Str=>a ≠ b) (S:=fun a b:Key=>a ≠ b) Sum.inr (fun a b n z=>n (Sum.inr.inj z)) h.keys
theorem uX (h:∀ q ∈ g,q.1 ≠ z):dC (dR g) (.inr z) = none:=by
 unfold dC;rw [Option.map_eq_none_iff,List.find?_eq_none];intro x hx;obtain ⟨q,hq,rfl⟩:=List.mem_map.mp hx;simpa using h q hq
end
theorem Chg.mono {S':List Addr} (h:Chg S H H') (s:∀ b ∈ S,b ∈ S'):Chg S' H H':=fun b o n e=>h b o (fun z=>n (s b z)) e
def putL (es:List Ent) (e:Ent):List Ent:=if (es.any fun f=>decide (f.2.1 = e.2.1)) = true then es.map (fun f=>if f.2.1 = e.2.1 then e else f) else es ++ [e]
theorem iJ {x:Ent} (nd:(es.map (·.2.1)).Nodup):x ∈ putL es e ↔ x = e \/ (x ∈ es/\x.2.1 ≠ e.2.1):=by
 unfold putL
 split
 ·rename_i h;obtain ⟨f,hf,Rx⟩:=List.any_eq_true.mp h;have Rx:=of_decide_eq_true Rx;rw [List.mem_map]
  constructor
  ·rintro ⟨y,hy,rfl⟩
   by_cases h1:y.2.1 = e.2.1
   ·rw [if_pos h1];exact .inl rfl
   ·rw [if_neg h1];exact .inr ⟨hy,h1⟩
  ·rintro (rfl | ⟨h1,h2⟩)
   ·exact ⟨f,hf,if_pos Rx⟩
   ·exact ⟨x,h1,if_neg h2⟩
 ·rename_i h;have h':∀ y ∈ es,¬ y.2.1 = e.2.1:=fun y hy z=>h (List.any_eq_true.mpr ⟨y,hy,decide_eq_true z⟩)
  rw [List.mem_append,List.mem_singleton]
  constructor
  ·rintro (h1 | h1)
   ·exact .inr ⟨h1,h' x h1⟩
   ·exact .inl h1
  ·rintro (h1 | h1)
   ·exact .inr h1
   ·exact .inl h1.1
theorem Fy:(putL es e).map (·.2.1) = if (es.any fun f=>decide (f.2.1 = e.2.1)) = true then es.map (·.2.1) else es.map (·.2.1) ++ [e.2.1]:=by
 unfold putL
 split
 ·rw [List.map_map];refine List.map_congr_left fun f hf=>?_
  show (if f.2.1 = e.2.1 then e else f).2.1 = f.2.1
  by_cases h1:f.2.1 = e.2.1
  ·rw [if_pos h1];exact h1.symm
  ·rw [if_neg h1]
 ·rw [List.map_append];rfl
theorem Hw (nd:(es.map (·.2.1)).Nodup):((putL es e).map (·.2.1)).Nodup:=by
 rw [Fy]
 split
 ·exact nd
 ·rename_i h;rw [List.nodup_append];refine ⟨nd,List.nodup_cons.mpr ⟨(fun z=>by cases z),List.Pairwise.nil⟩,fun x hx y hy z=>?_⟩
  obtain ⟨f,hf,rfl⟩:=List.mem_map.mp hx;rw [List.mem_singleton.mp hy] at z;exact h (List.any_eq_true.mpr ⟨f,hf,decide_eq_true z⟩)
theorem yj : ∀ {es : List Ent} {kvs : List (Key × V)} {e : Ent} {v : V}, kvs.map (·.1) = es.map (fun e => (Sum.inl e.2.1 : Key)) -> Reps H (es.map au) (kvs.map (·.2)) -> Rep H (au e) v ->
    (putK kvs (.inl e.2.1) v).map (·.1) = (putL es e).map (fun e=>(Sum.inl e.2.1:Key))/\Reps H ((putL es e).map au) ((putK kvs (.inl e.2.1) v).map (·.2)):=by
 intro es kvs e v h1 h2 h3;have RN:∀ {es:List Ent} {kvs:List (Key × V)},kvs.map (·.1) = es.map (fun e=>(Sum.inl e.2.1:Key))->(kvs.any fun kv=>decide (kv.1 = (.inl e.2.1:Key))) = es.any fun f=>decide (f.2.1 = e.2.1):=by
  intro es
  induction es with
  | nil=>intro kvs h;rw [List.map_nil,List.map_eq_nil_iff] at h;rw [h];rfl
  | cons f r ih =>
   intro kvs h
   cases kvs with
   | nil=>cases h
   | cons kv ks =>
    rw [List.map_cons,List.map_cons] at h;obtain ⟨a1,a2⟩:=List.cons.inj h;rw [List.any_cons,List.any_cons,ih a2,a1]
    congr 1
    rw [decide_eq_decide];exact ⟨fun z=>Sum.inl.inj z,fun z=>by rw [z]⟩
 have Rm:∀ {es:List Ent} {kvs:List (Key × V)},kvs.map (·.1) = es.map (fun e=>(Sum.inl e.2.1:Key))->Reps H (es.map au) (kvs.map (·.2))->((kvs.map fun kv=>if kv.1 = (.inl e.2.1:Key) then (kv.1,v) else kv).map (·.1)) = ((es.map fun f=>if f.2.1 = e.2.1 then e else f).map fun e=>(Sum.inl e.2.1:Key))/\Reps H ((es.map fun f=>if f.2.1 = e.2.1 then e else f).map au) ((kvs.map fun kv=>if kv.1 = (.inl e.2.1:Key) then (kv.1,v) else kv).map (·.2)):=by
  intro es
  induction es with
  | nil=>intro kvs h _;rw [List.map_nil,List.map_eq_nil_iff] at h;rw [h];exact ⟨rfl,Reps.nil'⟩
  | cons f r ih =>
   intro kvs h h'
   cases kvs with
   | nil=>cases h
   | cons kv ks =>
    rw [List.map_cons,List.map_cons] at h;obtain ⟨a1,a2⟩:=List.cons.inj h;simp only [List.map_cons,Reps] at h';obtain ⟨u,rr,eu,r1,r2⟩:=h';obtain ⟨rfl,rfl⟩:=List.cons.inj eu;obtain ⟨b1,b2⟩:=ih a2 r2;simp only [List.map_cons]
    by_cases hz:f.2.1 = e.2.1
    ·rw [if_pos hz,if_pos (by rw [a1,hz])];exact ⟨by rw [b1,a1,hz],Reps.cons' h3 b2⟩
    ·rw [if_neg hz,if_neg (by rw [a1];exact fun z=>hz (Sum.inl.inj z))]
     exact ⟨by rw [b1,a1],Reps.cons' r1 b2⟩
 unfold putK putL;rw [RN h1]
 split
 ·exact Rm h1 h2
 ·rw [List.map_append,List.map_append,List.map_append,List.map_append,h1];exact ⟨rfl,Reps.snoc h2 h3⟩
def qm (g:GS) (z:Str) (e:Ent):GS:=g.map fun q=>if q.1 = z then (q.1,q.2.1,putL q.2.2 e) else q
theorem Ap {g:GS}:(qm g z e).map (·.1) = g.map (·.1):=by
 unfold qm;rw [List.map_map];refine List.map_congr_left fun q _=>?_
 show (if q.1 = z then (q.1,q.2.1,putL q.2.2 e) else q).1 = q.1
 by_cases h:q.1 = z
 ·rw [if_pos h]
 ·rw [if_neg h]
theorem vC {g:GS}:(qm g z e).map (·.2.1) = g.map (·.2.1):=by
 unfold qm;rw [List.map_map];refine List.map_congr_left fun q _=>?_
 show (if q.1 = z then (q.1,q.2.1,putL q.2.2 e) else q).2.1 = q.2.1
 by_cases h:q.1 = z
 ·rw [if_pos h]
 ·rw [if_neg h]
theorem Dl {g:GS}:dR (qm g z e) = dR g:=by
 unfold qm dR;rw [List.map_map];refine List.map_congr_left fun q _=>?_
 show ((Sum.inr (if q.1 = z then (q.1,q.2.1,putL q.2.2 e) else q).1,V.ref (if q.1 = z then (q.1,q.2.1,putL q.2.2 e) else q).2.1):Key × V) = (.inr q.1,.ref q.2.1)
 by_cases h:q.1 = z
 ·rw [if_pos h]
 ·rw [if_neg h]
theorem Gh (nd:(es.map (·.2.1)).Nodup):putL es e ≠ []:=fun z=>by
 have:=(iJ (es:=es) (e:=e) (x:=e) nd).mpr (.inl rfl);rw [z] at this
 cases this
theorem Gk {g:GS} (h:GOk t g):GOk t (qm g e.1 e):=by
 refine ⟨by rw [Ap];exact h.keys,by rw [vC];exact h.ads,fun q hq=>?_⟩;obtain ⟨p,hp,rfl⟩:=List.mem_map.mp hq;obtain ⟨a1,a2,a3⟩:=h.ent p hp
 by_cases hz:p.1 = e.1
 ·rw [if_pos hz];refine ⟨fun x hx=>?_,Hw a2,Gh a2⟩
  rcases (iJ a2).mp hx with rfl | ⟨h1,_⟩
  ·exact hz.symm
  ·exact a1 x h1
 ·rw [if_neg hz];exact ⟨a1,a2,a3⟩
theorem Dm {g:GS} {x:Ent} (h:GOk t g) (hz:∃ q ∈ g,q.1 = e.1):x ∈ flat (qm g e.1 e) ↔ x = e \/ (x ∈ flat g/\cW x ≠ cW e):=by
 rw [gG,gG]
 constructor
 ·rintro ⟨q,hq,hx⟩;obtain ⟨p,hp,rfl⟩:=List.mem_map.mp hq;obtain ⟨a1,a2,a3⟩:=h.ent p hp
  by_cases hz:p.1 = e.1
  ·rw [if_pos hz] at hx
   rcases (iJ a2).mp hx with rfl | ⟨h1,h2⟩
   ·exact .inl rfl
   ·exact .inr ⟨⟨p,hp,h1⟩,fun k=>h2 (Nl k)⟩
  ·rw [if_neg hz] at hx;exact .inr ⟨⟨p,hp,hx⟩,fun k=>hz (by have k1:x.1 = e.1:=x9 k;rw [<- a1 x hx,k1])⟩
 ·rintro (rfl | ⟨⟨p,hp,hx⟩,hn⟩)
  ·obtain ⟨q,hq,Wl⟩:=hz;obtain ⟨a1,a2,a3⟩:=h.ent q hq;exact ⟨_,List.mem_map.mpr ⟨q,hq,rfl⟩,by rw [if_pos Wl];exact (iJ a2).mpr (.inl rfl)⟩
  ·obtain ⟨a1,a2,a3⟩:=h.ent p hp;refine ⟨_,List.mem_map.mpr ⟨p,hp,rfl⟩,?_⟩
   by_cases hz:p.1 = e.1
   ·rw [if_pos hz];refine (iJ a2).mpr (.inr ⟨hx,fun k=>hn ?_⟩);show ((x.1,-x.2.1):RK) = (e.1,-e.2.1);rw [k,a1 x hx,hz]
   ·rw [if_neg hz];exact hx
theorem Hu {b:Addr} {g:GS} (h:GOk t g) (hz:∀ q ∈ g,q.1 ≠ e.1) (hb:b ∉ t :: g.map (·.2.1)):GOk t (g ++ [(e.1,b,[e])]):=by
 refine ⟨?_,?_,fun q hq=>?_⟩
 ·rw [List.map_append,List.nodup_append];refine ⟨h.keys,List.nodup_cons.mpr ⟨(fun z=>by cases z),List.Pairwise.nil⟩,fun x hx y hy z=>?_⟩
  obtain ⟨q,hq,rfl⟩:=List.mem_map.mp hx;exact hz q hq (z.trans (List.mem_singleton.mp hy))
 ·rw [List.map_append,<- List.cons_append,List.nodup_append];refine ⟨h.ads,List.nodup_cons.mpr ⟨(fun z=>by cases z),List.Pairwise.nil⟩,fun x hx y hy z=>?_⟩
  have e1:y = b:=List.mem_singleton.mp hy;rw [z,e1] at hx;exact hb hx
 ·rcases List.mem_append.mp hq with hq | hq
  ·exact h.ent q hq
  ·rw [List.mem_singleton.mp hq];exact ⟨fun x hx=>by rw [List.mem_singleton.mp hx],List.nodup_cons.mpr ⟨(fun z=>by cases z),List.Pairwise.nil⟩,fun z=>by cases z⟩
theorem DP {b:Addr} {g:GS} {x:Ent} (h:GOk t g) (hz:∀ q ∈ g,q.1 ≠ e.1):x ∈ flat (g ++ [(e.1,b,[e])]) ↔ x = e \/ (x ∈ flat g/\cW x ≠ cW e):=by
 have e1:flat (g ++ [(e.1,b,[e])]) = flat g ++ [e]:=by simp only [flat,List.flatMap_append,List.flatMap_cons,List.flatMap_nil,List.append_nil]
 rw [e1,List.mem_append,List.mem_singleton]
 constructor
 ·rintro (h1 | h1)
  ·refine .inr ⟨h1,fun k=>?_⟩;obtain ⟨q,hq,hx⟩:=gG.mp h1;have k1:x.1 = e.1:=x9 k;exact hz q hq (by rw [<- (h.ent q hq).1 x hx,k1])
  ·exact .inl h1
 ·rintro (h1 | h1)
  ·exact .inr h1
  ·exact .inl h1.1
theorem vB [DecidableEq κ] {kvs:List (κ × V)} {k:κ} (h:∀ q ∈ kvs,q.1 ≠ k):putK kvs k v = kvs ++ [(k,v)]:=by
 unfold putK;rw [if_neg];intro z;obtain ⟨q,hq,e⟩:=List.any_eq_true.mp z;exact h q hq (of_decide_eq_true e)
theorem HandAt.put1 {g : GS} {p : Str × Addr × List Ent} {kvs : List (Key × V)} (hA : HandAt c H a t g) (hg : GOk t g) (hp : p ∈ g) (Jv : p.1 = e.1) (i1 : H p.2.1 = some (.dK kvs)) (i2 : kvs.map (·.1) = p.2.2.map (fun e => (Sum.inl e.2.1 : Key))) (i3 : Reps H (p.2.2.map au) (kvs.map (·.2))) (hr : Rep H (au e) (.ref r)) :
    HandAt c (upd H p.2.1 (.dK (putK kvs (.inl e.2.1) (.ref r)))) a t (qm g e.1 e):=by
 have tu:Tups H (upd H p.2.1 (.dK (putK kvs (.inl e.2.1) (.ref r)))):=Tups.upd fun xs z=>by rw [i1] at z;cases z
 obtain ⟨⟨dx,ha⟩,ht,ho⟩:=hA;refine ⟨⟨dx,?_⟩,?_,fun q hq=>?_⟩
 ·rw [aj (fun z=>by rw [z,i1] at ha;cases ha)];exact ha
 ·rw [aj (fun z=>(List.nodup_cons.mp hg.ads).1 (List.mem_map.mpr ⟨p,hp,z.symm⟩)),Dl];exact ht
 ·obtain ⟨p',qc,rfl⟩:=List.mem_map.mp hq
  by_cases hz:p'.1 = e.1
  ·obtain rfl:=hg.one hp qc (Jv.trans hz.symm);rw [if_pos hz];obtain ⟨j1,j2⟩:=yj i2 i3 hr;exact ⟨_,ak,j1,aI j2 tu⟩
  ·rw [if_neg hz];exact (ho p' qc).stay (fun o e'=>by rw [aj (fun z=>hz (by rw [hg.oneA qc hp z];exact Jv))];exact e') tu
theorem Gm {b:Addr} {g:GS} (h:b ∈ fp a t (qm g z e)):b ∈ fp a t g:=by
 unfold fp at *;rw [vC] at h;exact h
theorem HandAt.put2 {b:Addr} {g:GS} (hA:HandAt c H a t g) (hg:GOk t g) (hb:H b = none) (RQ:H' a = H a) (Wd:H' t = some (.dK (dR g ++ [(.inr e.1,.ref b)]))) (M3:H' b = some (.dK [(.inl e.2.1,.ref r)])) (hr:Rep H' (au e) (.ref r)) (k:Chg [t] H H'):HandAt c H' a t (g ++ [(e.1,b,[e])]):=by
 obtain ⟨⟨dx,ha⟩,ht,ho⟩:=hA;have tu:Tups H H':=fun d xs z=>k d _ (fun m=>by rw [List.mem_singleton.mp m,ht] at z;cases z) z
 refine ⟨⟨dx,by rw [RQ,ha]⟩,by rw [Wd];unfold dR;rw [List.map_append];rfl,fun q hq=>?_⟩
 rcases List.mem_append.mp hq with hq | hq
 ·obtain ⟨kvs,i1,i2,i3⟩:=ho q hq
  by_cases z:q.2.1 = t
  ·exact ((List.nodup_cons.mp hg.ads).1 (List.mem_map.mpr ⟨q,hq,z⟩)).elim
  ·exact ⟨kvs,k _ _ (fun m=>z (List.mem_singleton.mp m)) i1,i2,aI i3 tu⟩
 ·rw [List.mem_singleton.mp hq];exact ⟨_,M3,rfl,Reps.cons' hr Reps.nil'⟩
theorem val_last {kvs:List (Key × V)} {k:Key} (h:∀ q ∈ kvs,q.1 ≠ k):dC (kvs ++ [(k,v)]) k = some v:=by
 unfold dC;rw [List.find?_append,List.find?_eq_none.mpr (fun q hq=>by simpa using h q hq)];simp
end
variable {g:GS}
section
section
theorem jl (Z : Cl K mg c) (hA : HandAt c H a t g) {F : V -> Prop} (q : F (.ref t)) :
    ∃ a' C dx fs v',V.ref a = .ref a'/\H a' = some (.ins C dx fs)/\Cls K C/\NoAttr K C "kept"/\fs.lookup ("kept":Str) = some v'/\F v':=by
 obtain ⟨⟨dx,ha⟩,_⟩:=hA;exact ⟨a,_,dx,_,_,rfl,ha,Z.c_Hand,Z.na1,rfl,q⟩
theorem ku (hA:HandAt c H a t g) {mt:Str} (hl:([("kept",.ref t)]:List (Str × V)).lookup mt = none) {G:Prop} (q:G):∃ a' dx fs,V.ref a = .ref a'/\H a' = some (.ins c.Hand dx fs)/\fs.lookup mt = none/\G:=by
 obtain ⟨⟨dx,ha⟩,_⟩:=hA;exact ⟨a,dx,_,rfl,ha,hl,q⟩
end
def yX (c:Cs):Sp:=fun vs H Q _=>∃ a dx,vs = [.ref a]/\H a = some (.ins c.Hand dx [])/\∀ t H',HandAt c H' a t []->Chg [a] H H'->H t = none->Q .non H'
theorem sZ:ao ["self"] ["self"] (ab fF):=dE
theorem tP (T:Txt K mg) (Z:Cl K mg c) (F:FunD K "__init__" "Hand.__init__" fF dV c.Hand_init fd):FnOk P w K mg base bR (1) c.Hand_init fd ["self"] (yX c):=by
 refine F.okB sZ (fun vs H Q E h=>?_) (fun aT A outer s H vs Q E hr h=>?_)
 ·obtain ⟨a,dx,rfl,_⟩:=h
  rfl
 ·obtain ⟨a,dx,rfl,ha,q⟩:=h;refine ⟨_,(ai (uy (bv 0) zK)),?_⟩;kas_types;lcg_off;intro p hp;have hne:a ≠ p:=fun e=>by rw [e,hp] at ha;cases ha
  lcg_off;refine ⟨a,_,dx,_,rfl,by rw [aj hne];exact ha,Z.c_Hand,Z.na1,by decide,?_⟩;refine q p _ ⟨⟨dx,ak⟩,by rw [aj (Ne.symm hne),ak];rfl,fun q hq=>by cases hq⟩ (fun b o n e=>?_) hp
  rw [aj (fun z=>n (by rw [z];exact List.mem_cons_self)),aj (aY e hp)]
  exact e
def CC (c:Cs):Sp:=fun vs H Q _=>∃ (a t:Addr) (g:GS) (e:Ent) (v:V),vs = [.ref a,.str e.1,.int e.2.1,v]/\HandAt c H a t g/\GOk t g/\Rep H (oD e.2.2) v/\(flat g).length < 1000 /\
 ∀ H' g',HandAt c H' a t g'->GOk t g'->Chg (fp a t g) H H'->(∀ b ∈ fp a t g',b ∈ fp a t g \/ H b = none)->(∀ x,x ∈ flat g' ↔ x = e \/ (x ∈ flat g/\cW x ≠ cW e))->Q .non H'
theorem vw:ao ["self","key","stamp","value"] ["self","key","stamp","value"] (ab g8):=dE
theorem vJ (T:Txt K mg) (Z:Cl K mg c) (F:FunD K "put" "Hand.put" g8 dV c.Hand_put fd):FnOk P w K mg base bR (1) c.Hand_put fd ["self","key","stamp","value"] (CC c):=by
 refine F.okB vw (fun vs H Q E h=>?_) (fun aT A outer s H vs Q E hr h=>?_)
 ·obtain ⟨a,t,g,e,v,rfl,_⟩:=h
  rfl
 ·obtain ⟨a,t,g,e,v,rfl,hA,hg,hv,hz,q⟩:=h;have wq:=vW hg;refine ⟨_,(ag (bh (ay (rD (aH hr)) (bv 1) (dJ (bv 0)) rfl)
   (ai (zG (rR hr) (dJ (bv 0)) (bv 1) zK))
   aA)
  (ai (zG (rR hr) (EY (rR hr) (dJ (bv 0)) (bv 1) (fun _ _=>rfl)) (bv 2) (eV (af (bv 1) (af (bv 2) (af (bv 3) ae rfl) rfl) rfl))))),?_⟩
  kas_types;lcg_off;refine jl Z hA ?_;lcg_off;refine rq hA.tab ?_
  by_cases hk:∃ p ∈ g,p.1 = e.1
  ·obtain ⟨p,hp,Jv⟩:=hk;have MR:=uW hg hp;rw [Jv] at MR;rw [MR];lcg_off;refine rO (by simp) ?_;lcg_off;rename_i r G s1 MS;have M4:=hA.same s1;refine jl Z M4 ?_;lcg_off;refine ⟨t,.ref p.2.1,rfl,by rw [<- MR];exact DGet.k (k:=.inr e.1) M4.tab,?_⟩;lcg_off;obtain ⟨kvs,i1,i2,i3⟩:=M4.own p hp;have Ou:kvs.length = p.2.2.length:=by have:=congrArg List.length i2;rwa [List.length_map,List.length_map] at this
   have lL:=lG hp;refine ⟨p.2.1,_,rfl,DPut.k (k:=.inl e.2.1) i1 (by rw [sizeLine_eq];omega),?_⟩;refine q _ _ (M4.put1 hg hp Jv i1 i2 i3 (oy MS (DM hv))) (Gk hg) ?_ (fun b hb=>.inl (Gm hb)) (fun x=>Dm hg ⟨p,hp,Jv⟩)
   exact (Chg.of s1).trans (Chg.upd (List.mem_cons_of_mem _ (List.mem_cons_of_mem _ (List.mem_map.mpr ⟨p,hp,rfl⟩))))
  ·have Fj:∀ q ∈ g,q.1 ≠ e.1:=fun q hq z=>hk ⟨q,hq,z⟩
   rw [uX Fj];lcg_off;refine D9 (by simp) ?_;lcg_off;intro b hb;have sb:Same H (upd H b (.dK [])):=aE hb;have TM:b ≠ t:=fun z=>by have:=hA.tab;rw [<- z,hb] at this;cases this
   have Fm:b ≠ a:=fun z=>by obtain ⟨dx,this⟩:=hA.ins;rw [<- z,hb] at this;cases this
   lcg_off;refine jl Z (hA.same sb) ?_;lcg_off;refine ⟨t,_,rfl,DPut.k (k:=.inr e.1) (hA.same sb).tab (by rw [sizeLine_eq];unfold dR;rw [List.length_map];omega),?_⟩;rw [vB (fun q hq=>by obtain ⟨p,hp,rfl⟩:=List.mem_map.mp hq;exact fun z=>Fj p hp (Sum.inr.inj z))];obtain ⟨H2,uS⟩:∃ H2,upd (upd H b (.dK [])) t (.dK (dR g ++ [(.inr e.1,.ref b)])) = H2:=⟨_,rfl⟩
   have uR:H2 a = H a:=by rw [<- uS,aj (fun z=>by obtain ⟨dx,this⟩:=hA.ins;rw [z,hA.tab] at this;cases this),aj (Ne.symm Fm)]
   have Tp:H2 t = some (.dK (dR g ++ [(.inr e.1,.ref b)])):=by rw [<- uS];exact ak
   have rS:H2 b = some (.dK []):=by rw [<- uS,aj TM];exact ak
   have k2:Chg [t] H H2:=by rw [<- uS];exact (Chg.of sb).trans (Chg.upd List.mem_cons_self)
   rw [uS];clear uS;obtain ⟨dx,Mf⟩:=hA.ins;lcg_off;rename_i r G s1 MS;refine ⟨a,_,dx,_,_,rfl,by rw [s1 _ _ (uR.trans Mf)],Z.c_Hand,Z.na1,rfl,?_⟩;lcg_off;refine ⟨t,.ref b,rfl,?_,?_⟩
   ·have e1:dC (dR g ++ [((.inr e.1:Key),V.ref b)]) (.inr e.1) = some (.ref b):=val_last (fun q hq=>by obtain ⟨p,hp,rfl⟩:=List.mem_map.mp hq;exact fun z=>Fj p hp (Sum.inr.inj z))
    rw [<- e1];exact DGet.k (k:=.inr e.1) (s1 _ _ Tp)
   lcg_off;refine ⟨b,_,rfl,DPut.k (k:=.inl e.2.1) (s1 _ _ rS) (by rw [sizeLine_eq];decide),?_⟩;have k3:Chg [t] H (upd G b (.dK (putK [] (.inl e.2.1) (.ref r)))):=fun d o n z=>by
    rw [aj (aY z hb)];exact s1 _ _ (k2 d o n z)
   have Jt:Rep (upd G b (.dK (putK [] (.inl e.2.1) (.ref r)))) (au e) (.ref r):=oy (by rw [aj (fun z=>by rw [z,s1 _ _ rS] at MS;cases MS)];exact MS) (DM hv)
   refine q _ _ (hA.put2 hg hb ?_ ?_ ak Jt k3) (Hu hg Fj ?_) (k3.mono fun d hd=>?_) (fun d hd=>?_) (fun x=>DP hg Fj)
   ·rw [aj (Ne.symm Fm),s1 _ _ (uR.trans Mf),Mf]
   ·rw [aj (Ne.symm TM)];exact s1 _ _ Tp
   ·intro z;exact hA.notN hb (List.mem_cons_of_mem _ z)
   ·rw [List.mem_singleton.mp hd];exact List.mem_cons_of_mem _ List.mem_cons_self
   ·unfold fp at hd ⊢;rw [List.map_append] at hd
    rcases List.mem_cons.mp hd with z | hd
    ·exact .inl (by rw [z];exact List.mem_cons_self)
    ·rcases List.mem_cons.mp hd with z | hd
     ·exact .inl (by rw [z];exact List.mem_cons_of_mem _ List.mem_cons_self)
     ·rcases List.mem_append.mp hd with hd | hd
      ·exact .inl (List.mem_cons_of_mem _ (List.mem_cons_of_mem _ hd))
      ·exact .inr (by rw [List.mem_singleton.mp hd];exact hb)
theorem wj (hA : HandAt c H a t g) (hg : GOk t g) (hv : Rep H (oD e.2.2) v) (hz : (flat g).length < 1000)
    (q:∀ H' g',HandAt c H' a t g'->GOk t g'->Chg (fp a t g) H H'->(∀ b ∈ fp a t g',b ∈ fp a t g \/ H b = none)->(∀ x,x ∈ flat g' ↔ x = e \/ (x ∈ flat g/\cW x ≠ cW e))->Q .non H'):CC c [.ref a,.str e.1,.int e.2.1,v] H Q E:=⟨a,t,g,e,v,rfl,hA,hg,hv,hz,q⟩
end
section
def pR (z:Str) (t:Int) (es:List Ent):Option Ent->Prop
 | none=>∀ f ∈ es,f.1 = z->¬ f.2.1 <= t
 | some e=>e ∈ es/\e.1 = z/\e.2.1 <= t/\∀ f ∈ es,f.1 = z->f.2.1 <= t->f.2.1 <= e.2.1
theorem yy {t:Int} {o:Option Ent} {x:Ent} (h:pR z t es o):pR z t (es ++ [x]) (kF z t o x):=by
 by_cases h0:x.1 = z
 ·by_cases h1:x.2.1 <= t
  ·cases o with
   | none =>
    rw [rJ h0 h1];refine ⟨List.mem_append.mpr (.inr List.mem_cons_self),h0,h1,fun f hf hz ht=>?_⟩
    rcases List.mem_append.mp hf with hf | hf
    ·exact (h f hf hz ht).elim
    ·rw [List.mem_singleton.mp hf];exact Int.le_refl _
   | some e =>
    obtain ⟨a1,a2,a3,a4⟩:=h
    by_cases h2:e.2.1 < x.2.1
    ·rw [rH h0 h1 h2];refine ⟨List.mem_append.mpr (.inr List.mem_cons_self),h0,h1,fun f hf hz ht=>?_⟩
     rcases List.mem_append.mp hf with hf | hf
     ·have:=a4 f hf hz ht;omega
     ·rw [List.mem_singleton.mp hf];exact Int.le_refl _
    ·rw [vO h2];refine ⟨List.mem_append.mpr (.inl a1),a2,a3,fun f hf hz ht=>?_⟩
     rcases List.mem_append.mp hf with hf | hf
     ·exact a4 f hf hz ht
     ·rw [List.mem_singleton.mp hf];omega
  ·rw [zj h1]
   cases o with
   | none =>
    intro f hf hz
    rcases List.mem_append.mp hf with hf | hf
    ·exact h f hf hz
    ·rw [List.mem_singleton.mp hf];exact h1
   | some e =>
    obtain ⟨a1,a2,a3,a4⟩:=h;refine ⟨List.mem_append.mpr (.inl a1),a2,a3,fun f hf hz ht=>?_⟩
    rcases List.mem_append.mp hf with hf | hf
    ·exact a4 f hf hz ht
    ·rw [List.mem_singleton.mp hf] at ht;exact (h1 ht).elim
 ·rw [ot h0]
  cases o with
  | none =>
   intro f hf hz
   rcases List.mem_append.mp hf with hf | hf
   ·exact h f hf hz
   ·rw [List.mem_singleton.mp hf] at hz;exact (h0 hz).elim
  | some e =>
   obtain ⟨a1,a2,a3,a4⟩:=h;refine ⟨List.mem_append.mpr (.inl a1),a2,a3,fun f hf hz ht=>?_⟩
   rcases List.mem_append.mp hf with hf | hf
   ·exact a4 f hf hz ht
   ·rw [List.mem_singleton.mp hf] at hz;exact (h0 hz).elim
theorem rQ (z:Str) (t:Int) (es:List Ent):pR z t es (bU z t es):=by
 have key:∀ (fs pre:List Ent) (o:Option Ent),pR z t pre o->pR z t (pre ++ fs) (fs.foldl (kF z t) o):=by
  intro fs
  induction fs with
  | nil=>intro pre o h;rw [List.append_nil];exact h
  | cons x r ih =>
   intro pre o h;have:=ih (pre ++ [x]) _ (yy h);rw [List.append_assoc] at this;exact this
 exact key es [] none (fun f hf=>by cases hf)
theorem CW (nd:(es.map cW).Nodup) {f:Ent} (he:e ∈ es) (hf:f ∈ es) (k:cW e = cW f):e = f:=by
 induction es with
 | nil=>cases he
 | cons x r ih =>
  rw [List.map_cons,List.nodup_cons] at nd
  rcases List.mem_cons.mp he with h1 | h1
  ·rcases List.mem_cons.mp hf with h2 | h2
   ·rw [h1,h2]
   ·exact (nd.1 (List.mem_map.mpr ⟨f,h2,by rw [<- k,h1]⟩)).elim
  ·rcases List.mem_cons.mp hf with h2 | h2
   ·exact (nd.1 (List.mem_map.mpr ⟨e,h1,by rw [k,h2]⟩)).elim
   ·exact ih nd.2 h1 h2
theorem zk {t:Int} (nd:(fs.map cW).Nodup) (h:∀ x,x.1 = z->(x ∈ es ↔ x ∈ fs)):bU z t es = bU z t fs:=by
 have h1:=rQ z t es;have h2:=rQ z t fs;generalize bU z t es = o at *;generalize bU z t fs = p at *
 cases o with
 | none =>
  cases p with
  | none=>rfl
  | some f =>
   obtain ⟨b1,b2,b3,b4⟩:=h2;exact (h1 f ((h f b2).mpr b1) b2 b3).elim
 | some e =>
  obtain ⟨a1,a2,a3,a4⟩:=h1
  cases p with
  | none=>exact (h2 e ((h e a2).mp a1) a2 a3).elim
  | some f =>
   obtain ⟨b1,b2,b3,b4⟩:=h2;have c1:=a4 f ((h f b2).mpr b1) b2 b3;have c2:=b4 e ((h e a2).mp a1) a2 a3;have c3:e.2.1 = f.2.1:=by omega
   rw [CW nd ((h e a2).mp a1) b1 (by show ((e.1,-e.2.1):RK) = (f.1,-f.2.1);rw [a2,b2,c3])]
def FrzS (H:Hp) (t:Addr) (o:Obj) (x:HO) (F:Hp):Prop:=F t = some (.frz o x)/\∀ b u,b ≠ t->H b = some u->F b = some u
theorem FrzS.mk' {H1:Hp} (s:Same H H1):FrzS H t o x (upd H1 t (.frz o x)):=⟨ak,fun b u n e=>by rw [aj n];exact s _ _ e⟩
theorem FrzS.same {F1:Hp} (h:FrzS H t o x F) (s:Same F F1):FrzS H t o x F1:=⟨s _ _ h.1,fun b u n e=>s _ _ (h.2 b u n e)⟩
theorem FrzS.upd {u:HO} (h:FrzS H t o x F) (hl:H l = none) (ht:H t ≠ none):FrzS H t o x (upd F l u):=⟨by rw [aj (fun z=>ht (by rw [z];exact hl))];exact h.1,fun b u n e=>by rw [aj (aY e hl)];exact h.2 b u n e⟩
theorem FrzS.thaw (h:FrzS H t o x F) (ht:H t = some x):Same H (L2.upd F t x):=fun b u e=>by
 by_cases z:b = t
 ·subst z;rw [ak,<- ht,e]
 ·rw [aj z];exact h.2 b u z e
theorem FrzS.tups (h:FrzS H t o x F) (ht:∀ xs,H t ≠ some (.tup xs)):Tups H F:=fun b xs e=>h.2 b _ (fun z=>ht xs (by rw [<- z];exact e)) e
theorem FrzS.inner {b:Addr} (h:FrzS H t o x F) (ht:∀ xs,H t ≠ some (.tup xs)) (i:Inner H b es) (n:b ≠ t):Inner F b es:=i.stay (fun o e=>h.2 b _ n e) (h.tups ht)
theorem JN {k:Key} (h:(dR g)[i]? = some (k,v)):∃ (hi:i < g.length),v = .ref (g[i]).2.1/\g[i] ∈ g:=by
 unfold dR at h;rw [List.getElem?_map] at h;obtain ⟨q,hq,e⟩:=Option.map_eq_some_iff.mp h;obtain ⟨hi,e2⟩:=List.getElem?_eq_some_iff.mp hq;exact ⟨hi,by rw [e2];exact (congrArg Prod.snd e).symm,List.getElem_mem hi⟩
theorem BR:(dR g).length = g.length:=by unfold dR;rw [List.length_map]
theorem zX (hi:i < g.length):flat (g.take (i + 1)) = flat (g.take i) ++ (g[i]).2.2:=by
 rw [List.take_succ_eq_append_getElem hi];simp only [flat,List.flatMap_append,List.flatMap_cons,List.flatMap_nil,List.append_nil]
def CH (c:Cs):Sp:=fun vs H Q _=>∃ (a t:Addr) (g:GS) (z:Str) (s:Int),vs = [.ref a,.str z,.int s]/\HandAt c H a t g/\GOk t g/\(flat g).length < 1000/\∀ v H',Same H H'->Rep H' (oE (bU z s (flat g))) v->Q v H'
theorem tf:ao ["self","key","stamp"] ["self","key","stamp"] (ab fG):=dE
theorem tQ (T:Txt K mg) (Z:Cl K mg c) (F:FunD K "find" "Hand.find" fG dV c.Hand_find fd):FnOk P w K mg base bR (2) c.Hand_find fd ["self","key","stamp"] (CH c):=by
 obtain ⟨_,_,iR⟩:=T.f_newest;have pS:=rF (P:=P) (w:=w) (base:=base) T iR;refine F.okB tf (fun vs H Q E h=>?_) (fun aT A outer s H vs Q E hr h=>?_)
 ·obtain ⟨a,t,g,z,s,rfl,_⟩:=h
  rfl
 ·obtain ⟨a,t,g,z,s,rfl,hA,hg,hz,q⟩:=h;refine ⟨_,(ag (bh (ay (rD (aH hr)) (bv 1) (dJ (bv 0)) rfl)
   (ai (aq fN))
   aA)
  (ai (aq (dB iR pS hr.m (af (IA zF T.b_list (by kernel_rfl) (af (lV (EY (rR hr) (dJ (bv 0)) (bv 1) (fun _ _=>rfl))) ae rfl)) (af (bv 1) (af (bv 2) ae rfl) rfl) rfl))))),?_⟩
  kas_types;lcg_off;refine jl Z hA ?_;lcg_off;refine rq hA.tab ?_
  by_cases hk:∃ p ∈ g,p.1 = z
  ·obtain ⟨p,hp,rfl⟩:=hk;have MR:=uW hg hp;rw [MR];lcg_off;refine rO (by simp) ?_;lcg_off;refine jl Z hA ?_;lcg_off;refine ⟨t,.ref p.2.1,rfl,by rw [<- MR];exact DGet.k (k:=.inr p.1) hA.tab,?_⟩;obtain ⟨kvs,i1,i2,i3⟩:=hA.own p hp;have Ou:kvs.length = p.2.2.length:=by have:=congrArg List.length i2;rwa [List.length_map,List.length_map] at this
   have lL:=lG hp;lcg_off;refine yg i1 ?_;lcg_off;refine lx i1 (fun r H1 n1 s1 h1=>?_)
   lcg_off;refine vA h1 (s1 _ _ i1) (by omega) (fun l H2 n2 s2 h2=>?_);lcg_off;refine oq p.2.2 (.inl h2) (aI i3 (.of (s1.trans s2))) (fun v hv=>?_);refine q v H2 (s1.trans s2) ?_;rw [zk (es:=p.2.2) (fs:=flat g) hg.nd (fun x hx=>?_)] at hv
   ·exact hv
   ·rw [gG]
    constructor
    ·intro h;exact ⟨p,hp,h⟩
    ·rintro ⟨q',nI,h⟩;have e1:=(hg.ent q' nI).1 x h;rw [hg.one hp nI (hx.symm.trans e1)];exact h
  ·have Fj:∀ q ∈ g,q.1 ≠ z:=fun q hq y=>hk ⟨q,hq,y⟩
   rw [uX Fj];lcg_off;refine D9 (by simp) ?_;lcg_off;refine q _ _ (Same.refl _) ?_;rw [vN (fun e he=>?_)]
   ·simp only [oE,Rep]
   ·obtain ⟨q',nI,h⟩:=gG.mp he;rw [(hg.ent q' nI).1 e h];exact Fj q' nI
theorem A6 {s:Int} (hA:HandAt c H a t g) (hg:GOk t g) (hz:(flat g).length < 1000) (q:∀ v H',Same H H'->Rep H' (oE (bU z s (flat g))) v->Q v H'):CH c [.ref a,.str z,.int s] H Q E:=⟨a,t,g,z,s,rfl,hA,hg,hz,q⟩
def Ci (c:Cs):Sp:=fun vs H Q _=>∃ (a t:Addr) (g:GS),vs = [.ref a]/\HandAt c H a t g/\GOk t g/\(flat g).length < 1000/\∀ ys fs l H1,fs.Perm (flat g)->bQ fs->H l = none->Same H H1->H1 l = some (.lst ys)->Reps H1 (fs.map au) ys->Q (.ref l) H1
theorem Reps.app {H:Hp}:∀ {ds es:List D} {vs us:List V},Reps H ds vs->Reps H es us->Reps H (ds ++ es) (vs ++ us)
 | [],es,vs,us,h,h'=>by
  simp only [Reps] at h;subst h;exact h'
 | d :: ds,es,vs,us,h,h'=>by
  simp only [Reps] at h;obtain ⟨u,r,rfl,h1,h2⟩:=h;exact Reps.cons' h1 (Reps.app h2 h')
theorem iD {vs:List V} (h:Reps H (es.map au) vs):vs.length = es.length:=by
 obtain ⟨L,l1,l2,_⟩:=aX h;rw [<- l1,<- l2,List.length_map,List.length_map]
theorem gX:ao ["self","entries","own"] ["self"] (ab fE):=dE
theorem tO (T:Txt K mg) (Z:Cl K mg c) (F:FunD K "rows" "Hand.rows" fE dV c.Hand_rows fd):FnOk P w K mg base bR (5) c.Hand_rows fd ["self"] (Ci c):=by
 obtain ⟨_,_,eX⟩:=T.f_in_order;have j7:=mf (P:=P) (w:=w) (base:=base) T eX;refine F.okB gX (fun vs H Q E h=>?_) (fun aT A outer s H vs Q E hr h=>?_)
 ·obtain ⟨a,t,g,rfl,_⟩:=h
  rfl
 ·obtain ⟨a,t,g,rfl,hA,hg,hz,q⟩:=h;have wq:=vW hg;have Wx:∀ xs,H t ≠ some (.tup xs):=fun xs z=>by rw [hA.tab] at z;cases z
  have Wz:∀ o u,H t ≠ some (.frz o u):=fun o u z=>by rw [hA.tab] at z;cases z
  have Tu:∀ q ∈ g,q.2.1 ≠ t:=fun q hq z=>(List.nodup_cons.mp hg.ads).1 (List.mem_map.mpr ⟨q,hq,z⟩)
  refine ⟨_,(ag (aw (i:=1) gX.nd rfl (.inl rfl) (fO ae))
  (ag (Iu (cF PassesOwn.leaving rfl (Iy (lV (dJ (bv 0)))) (bA (i:=2) gX.nd rfl (.inl rfl))
   (ai (jv (Bs (bv 1) (af (IA zF T.b_list (by kernel_rfl) (af (lV (bv 2)) ae rfl)) ae rfl))))))
  (ai (aq (dB eX j7 hr.m (af (bv 1) ae rfl)))))),?_⟩
  kas_types;lcg_off;rename_i l Hl A4 sl hl;have PY:=hA.same sl;refine jl Z PY ?_;lcg_off;refine yg PY.tab ?_;lcg_off;refine lx PY.tab (fun r H1 n1 s1 h1=>?_);lcg_off;refine ⟨r,t,_,rfl,h1,s1 _ _ PY.tab,fun o=>?_⟩;have Xb:FrzS H t o (.dK (dR g)) (upd H1 t (.frz o (.dK (dR g)))):=FrzS.mk' (sl.trans s1);have eR:l ≠ t:=fun z=>by have:=hA.tab;rw [<- z,A4] at this;cases this
  refine ON (fun i σ F=>∃ (xs:List V) (o1:Option V),σ = [some (.ref a),some (.ref l),o1]/\FrzS H t o (.dK (dR g)) F/\F l = some (.lst xs)/\Reps F ((flat (g.take i)).map au) xs) ⟨[],none,rfl,Xb,by rw [aj eR];exact s1 _ _ hl,Reps.nil'⟩ (fun i σ F h=>by obtain ⟨_,_,rfl,h,_⟩:=h;exact h.1) (fun i k v σ F hv h=>?_) (fun σ F h=>?_)
  ·obtain ⟨xs,o1,rfl,f1,f2,f3⟩:=h;obtain ⟨hi,rfl,hm⟩:=JN hv;obtain ⟨kvs,i1,i2,i3⟩:=f1.inner Wx (hA.own _ hm) (Tu _ hm);have Ou:kvs.length = (g[i]).2.2.length:=by have:=congrArg List.length i2;rwa [List.length_map,List.length_map] at this
   have lL:=lG hm;have xB:=iD f3;have Z1:(flat (g.take i)).length <= (flat g).length:=by
    have e:flat g = flat (g.take i) ++ flat (g.drop i):=by
     have:=congrArg flat (List.take_append_drop i g);rw [<- this];simp only [flat,List.flatMap_append]
    rw [e,List.length_append];omega
   lcg_off;refine yg i1 ?_;lcg_off;refine lx i1 (fun r2 F2 n2 s2 h2=>?_);lcg_off;refine vA h2 (s2 _ _ i1) (by omega) (fun p3 F3 n3 s3 h3=>?_);have IV:Same F F3:=s2.trans s3;lcg_off;refine An (IV _ _ f2) h3 (by rw [xB,List.length_map,sizeLine_eq];omega) ?_;lcg_off;have tu:Tups F3 (upd F3 l (.lst (xs ++ kvs.map (·.2)))):=Tups.upd fun ys z=>by rw [IV _ _ f2] at z;cases z
   refine ⟨_,_,rfl,(f1.same IV).upd A4 (by rw [hA.tab];simp),ak,?_⟩;rw [zX hi,List.map_append];exact Reps.app (aI f3 ((Tups.of IV).trans tu)) (aI i3 ((Tups.of IV).trans tu))
  ·obtain ⟨xs,o1,rfl,f1,f2,f3⟩:=h;rw [BR,List.take_length] at f3;have sT:=f1.thaw hA.tab;refine .inr ⟨t,o,_,f1.1,Wz,?_⟩;have f4:upd F t (.dK (dR g)) l = some (.lst xs):=by rw [aj eR];exact f2
   have f5:Reps (upd F t (.dK (dR g))) ((flat g).map au) xs:=aI f3 (Tups.upd fun ys z=>by rw [f1.1] at z;cases z)
   generalize upd F t (.dK (dR g)) = F' at *;lcg_off;refine rC (flat g) f4 f5 hg.nd hz (fun xs' dA l' H2 p1 p2 p3 p4 p5 p6=>?_);exact q xs' dA l' H2 p1 p2 (sT.free p3) (sT.trans p4) p5 p6
theorem CV (hA:HandAt c H a t g) (hg:GOk t g) (hz:(flat g).length < 1000) (q:∀ ys fs l H1,fs.Perm (flat g)->bQ fs->H l = none->Same H H1->H1 l = some (.lst ys)->Reps H1 (fs.map au) ys->Q (.ref l) H1):Ci c [.ref a] H Q E:=⟨a,t,g,rfl,hA,hg,hz,q⟩
def CJ (c:Cs):Sp:=fun vs H Q _=>∃ (a t:Addr) (g:GS) (lo:Str) (hi:Option Str),vs = [.ref a,.str lo,yA hi]/\HandAt c H a t g/\GOk t g/\(flat g).length < 1000/\∀ ys fs l H1,fs.Perm (flat g)->bQ fs->H l = none->Same H H1->H1 l = some (.lst ys)->Reps H1 ((fs.filter (jq lo hi)).map au) ys->Q (.ref l) H1
theorem mO:ao ["self","low","high"] ["self","low","high"] (ab cM):=dE
theorem mV (T:Txt K mg) (Z:Cl K mg c) (F:FunD K "between" "Hand.between" cM dV c.Hand_between fd):FnOk P w K mg base bR (6) c.Hand_between fd ["self","low","high"] (CJ c):=by
 obtain ⟨_,_,xw,⟨_,qx,qC⟩⟩:=Z.i_Hand_rows;have xl:=tO (P:=P) (w:=w) (base:=base) T Z xw;obtain ⟨_,_,gQ⟩:=T.f_stretch;have l7:=oj (P:=P) (w:=w) (base:=base) T gQ;refine F.okB mO (fun vs H Q E h=>?_) (fun aT A outer s H vs Q E hr h=>?_)
 ·obtain ⟨a,t,g,lo,hi,rfl,_⟩:=h
  rfl
 ·obtain ⟨a,t,g,lo,hi,rfl,hA,hg,hz,q⟩:=h;refine ⟨_,(ai (aq (dB gQ l7 hr.m (af (yI Z.c_Hand Z.me_Hand_rows xl aR qC qx hr.m (bv 0)) (af (bv 1) (af (bv 2) ae rfl) rfl) rfl)))),?_⟩;kas_types;lcg_off;refine ku hA rfl ?_;lcg_off;refine CV hA hg hz (fun ys fs l H1 p1 p2 p3 s1 p5 p6=>?_)
  lcg_off;refine ma hi fs (.inl p5) p6 (by rw [p1.length_eq];exact hz) (fun l2 H2 zs n2 s2 h2 r2=>?_);exact q zs fs l2 H2 p1 p2 (s1.free n2) (s1.trans s2) h2 r2
theorem ET {w:V} (hi:Option Str) (hw:w = yA hi) (hA:HandAt c H a t g) (hg:GOk t g) (hz:(flat g).length < 1000) (q:∀ ys fs l H1,fs.Perm (flat g)->bQ fs->H l = none->Same H H1->H1 l = some (.lst ys)->Reps H1 ((fs.filter (jq lo hi)).map au) ys->Q (.ref l) H1):CJ c [.ref a,.str lo,w] H Q E:=⟨a,t,g,lo,hi,by rw [hw],hA,hg,hz,q⟩
end
section
theorem lF (n:Nat) (h:n < 2 ^ 64):((n:Nat):Int).natAbs.log2 < 1920:=by
 rw [Int.natAbs_natCast]
 by_cases h0:n = 0
 ·rw [h0];decide
 ·have:=(Nat.log2_lt h0).mpr (Nat.lt_of_lt_of_le h (Nat.pow_le_pow_right (by decide) (show 64 <= 1920 by decide)));exact this
theorem zi (h:n <= 9999999):(jU n).length <= 7:=Hh (k:=7) (by omega) (by decide)
def Cp:Sp:=fun vs H Q _=>∃ n k:Nat,vs = [.int (n:Nat),.int (k:Nat)]/\n < 10 ^ k/\n < 2 ^ 64/\1 <= k/\PadOk (k:Nat) = true/\Q (.str (vF n k)) H
theorem Ai:ao ["number","width"] ["number","width"] (ab ko):=dE
theorem AF (T:Txt K mg) (N:Fn K mg "padded" ko ["number","width"] f fd):FnOk P w K mg base bR (1) f fd ["number","width"] (Cp):=by
 refine N.fu.okB Ai (fun vs H Q E h=>?_) (fun aT A outer s H vs Q E hr h=>?_)
 ·obtain ⟨n,k,rfl,_⟩:=h
  rfl
 ·obtain ⟨n,k,rfl,hn,Jy,hk,yz,q⟩:=h;refine ⟨_,(ai (aq (EM (IA EK T.b_str (by kernel_rfl) (af (bv 0) ae rfl)) (af (bv 1) ae rfl)))),?_⟩;kas_types;lcg_off;refine yc (lF _ Jy) ?_;refine ⟨rfl,?_⟩;lcg_off;refine C0 yz ?_;rw [zQ hn hk];exact q
theorem DF {i:Int} (n k:Nat) (hi:i = (n:Nat)) (hj:j = (k:Nat)) (h1:n < 10 ^ k) (h2:n < 2 ^ 64) (h3:1 <= k) (h4:PadOk (k:Nat) = true) (q:Q (.str (vF n k)) H):Cp [.int i,.int j] H Q E:=⟨n,k,by rw [hi,hj],h1,h2,h3,h4,q⟩
def Cv:Sp:=fun vs H Q _=>∃ n:Nat,vs = [.int (n:Nat)]/\n <= 9999999/\Q (.str (Str.ofString "run" ++ vF n 7)) H
theorem x5:ao ["number"] ["number"] (ab ji):=dE
theorem yr (T:Txt K mg) (N:Fn K mg "name_of" ji ["number"] f fd):FnOk P w K mg base bR (2) f fd ["number"] (Cv):=by
 obtain ⟨_,_,w6⟩:=T.f_padded;have E8:=AF (P:=P) (w:=w) (base:=base) T w6;refine N.fu.okB x5 (fun vs H Q E h=>?_) (fun aT A outer s H vs Q E hr h=>?_)
 ·obtain ⟨n,rfl,_⟩:=h
  rfl
 ·obtain ⟨n,rfl,hn,q⟩:=h;refine ⟨_,(ai (aq (ax bE b_str (dB w6 E8 hr.m (af (bv 0) (af (yJ T.g_NAME_FIGURES) ae rfl) rfl))))),?_⟩;kas_types;lcg_off;refine DF n 7 rfl rfl (by omega) (by omega) (by decide) (by decide +kernel) ?_;lcg_off;refine jm (by rw [DG,show (Str.ofString "run").length = 3 by decide +kernel,sizeLine_eq];decide) ?_;exact q
theorem DS (n:Nat) (h:n <= 9999999) (q:Q (.str (Str.ofString "run" ++ vF n 7)) H):Cv [.int (n:Nat)] H Q E:=⟨n,rfl,h,q⟩
end
section
theorem y0 (zs:List Str):0 <= zs.foldl (jV sz) 0/\∀ z ∈ zs,qu (zs.foldl (jV sz) 0) (aK z sz) = true:=by
 obtain ⟨m,h1,h2,_⟩:=vt (sz:=sz) zs 0;have e:zs.foldl (jV sz) 0 = (m:Int):=h1;rw [e];refine ⟨by omega,fun z hz=>?_⟩
 unfold qu;rw [List.all_eq_true];intro p hp;rw [EN];exact h2 z hz p hp
structure RunAt (H:Hp) (r sv p:Addr) (xs:List V) (es:List Ent):Prop where
 run:H r = some (.tup [.ref sv,.ref p])
 sieve:H sv = some (.tup [.int (fV es),.int (iB es)])
 all:H p = some (.tup xs)
 rep:Reps H (es.map au) xs
theorem RunAt.tups (h:RunAt H r sv p xs es) (t:Tups H H'):RunAt H' r sv p xs es:=⟨t _ _ h.run,t _ _ h.sieve,t _ _ h.all,aI h.rep t⟩
theorem sR (es:List Ent):0 < fV es:=by unfold fV Fc;omega
theorem uz (es:List Ent):0 <= iB es:=(y0 _).1
theorem Iw (es:List Ent):iB es = (es.map (·.1)).foldl (jV (fV es)) 0:=by unfold iB fV;rfl
theorem DU (h:e ∈ es):qu (iB es) (aK e.1 (fV es)) = true:=by
 rw [Iw];have k:=(y0 (sz:=fV es) (es.map (·.1))).2;generalize fV es = s at *;generalize hz:e.1 = z;have m:z ∈ es.map (·.1):=List.mem_map.mpr ⟨e,h,hz⟩;generalize es.map (·.1) = ks at *;exact k z m
def tU (es:List Ent) (z:Str):Bool:=qu (iB es) (aK z (fV es))
theorem Ho {t:Int}:(if tU es z = true then bU z t es else none) = bU z t es:=by
 cases h:tU es z with
 | true=>rfl
 | false =>
  rw [if_neg (by simp),vN];intro e he hz;have:=DU he;rw [hz] at this;unfold tU at h;rw [h] at this
  cases this
theorem vS (R:RunAt H r sv p xs es) (tok:aL H) (q:∀ H1,SameB aB H H1->aL H1->Q (.bl (tU es z)) H1):Cw K [.ref sv,.str z] H Q E:=tT R.sieve (sR es) (uz es) tok q
theorem cY (s:SameB aB H H') (t:aL H):Tups H H':=by
 obtain ⟨qs,hT⟩:=t.tbl;exact nW (s.toN hT)
def yZ (K:W.Frag):Sp:=fun vs H Q _=>∃ (r sv p:Addr) (z:Str) (t:Int) (xs:List V) (es:List Ent),vs = [.ref r,.str z,.int t]/\RunAt H r sv p xs es/\aL H/\∀ v H1,SameB aB H H1->aL H1->Rep H1 (oE (bU z t es)) v->Q v H1
theorem FH:ao ["run","key","stamp"] ["run","key","stamp"] (ab tj):=dE
theorem G0 (T:Txt K mg) (kc:∀ p ∈ tabs,base.BuiltinsAt mg p) (kIn:K.In base) (N:Fn K mg "find" tj ["run","key","stamp"] f fd):FnOk P w K mg base bR (4) f fd ["run","key","stamp"] (yZ K):=by
 obtain ⟨_,_,iR⟩:=T.f_newest;have pS:=rF (P:=P) (w:=w) (base:=base) T iR;obtain ⟨_,_,cg⟩:=T.f_may_have;have eZ:=iG (P:=P) (w:=w) (base:=base) T kc kIn cg;refine N.fu.okB FH (fun vs H Q E h=>?_) (fun aT A outer s H vs Q E hr h=>?_)
 ·obtain ⟨r,sv,p,z,t,xs,es,rfl,_⟩:=h
  rfl
 ·obtain ⟨r,sv,p,z,t,xs,es,rfl,R,tok,q⟩:=h;have LU:=R.run;refine ⟨_,(ag (bh (c8 (cT (dB cg eZ hr.m (af (bp aC (bv 0) b_int (fun _ _=>rfl)) (af (bv 1) ae rfl) rfl)) (fun _=>rfl)))
   (ai (aq fN))
   aA)
  (ai (aq (dB iR pS hr.m (af (bp aC (bv 0) b_int (fun _ _=>rfl)) (af (bv 1) (af (bv 2) ae rfl) rfl) rfl))))),?_⟩
  kas_types;lcg_off;refine vS R tok (fun H1 s1 t1=>?_);have R1:=R.tups (cY s1 tok);have MS:=R1.run;have e:=Ho (es:=es) (z:=z) (t:=t)
  cases hm:tU es z with
  | false =>
   rw [hm] at e;lcg_off;refine q _ H1 s1 t1 ?_;rw [<- e];simp [oE,Rep]
  | true =>
   lcg_off;exact oq es (.inr R1.all) R1.rep (fun v hv=>q v H1 s1 t1 hv)
theorem Bk {t:Int} (R:RunAt H r sv p xs es) (tok:aL H) (q:∀ v H1,SameB aB H H1->aL H1->Rep H1 (oE (bU z t es)) v->Q v H1):yZ K [.ref r,.str z,.int t] H Q E:=⟨r,sv,p,z,t,xs,es,rfl,R,tok,q⟩
def FC (K:W.Frag):Sp:=fun vs H Q _=>∃ (r sv p:Addr) (lo:Str) (hi:Option Str) (xs:List V) (es:List Ent),vs = [.ref r,.str lo,yA hi]/\RunAt H r sv p xs es/\es.length < 1000/\∀ l H1 ys,H l = none->Same H H1->H1 l = some (.lst ys)->Reps H1 ((es.filter (jq lo hi)).map au) ys->Q (.ref l) H1
theorem x6:ao ["run","low","high"] ["run","low","high"] (ab jj):=dE
theorem yt (T:Txt K mg) (N:Fn K mg "between" jj ["run","low","high"] f fd):FnOk P w K mg base bR (2) f fd ["run","low","high"] (FC K):=by
 obtain ⟨_,_,gQ⟩:=T.f_stretch;have l7:=oj (P:=P) (w:=w) (base:=base) T gQ;refine N.fu.okB x6 (fun vs H Q E h=>?_) (fun aT A outer s H vs Q E hr h=>?_)
 ·obtain ⟨r,sv,p,lo,hi,xs,es,rfl,_⟩:=h
  rfl
 ·obtain ⟨r,sv,p,lo,hi,xs,es,rfl,R,hz,q⟩:=h;have LU:=R.run;refine ⟨_,(ai (aq (dB gQ l7 hr.m (af (bp aC (bv 0) b_int (fun _ _=>rfl)) (af (bv 1) (af (bv 2) ae rfl) rfl) rfl)))),?_⟩
  kas_types;lcg_off;exact ma hi es (.inr R.all) R.rep hz q
section
theorem ly {C : Addr} {dx : Addr} {fs : List (Str × V)} {fl : Str} (hc : Cls K C) (hn : W.findIn K (.ref C) fl = some none) (ha : H a = some (.ins C dx fs)) (hl : fs.lookup fl = some v) {F : V -> Prop} (q : F v) :
    ∃ a' C' Xl M5 v',V.ref a = .ref a'/\H a' = some (.ins C' Xl M5)/\Cls K C'/\NoAttr K C' fl/\M5.lookup fl = some v'/\F v':=⟨a,C,dx,fs,v,rfl,ha,hc,hn,hl,q⟩
end
def IHand (c:Cs) (H:Hp) (x:Addr) (es:List Ent):Prop:=∃ dx a t g,H x = some (.ins c.InHand dx [("hand",.ref a)])/\HandAt c H a t g/\GOk t g/\(∀ e,e ∈ flat g ↔ e ∈ es)
def IRun (c:Cs) (H:Hp) (x:Addr) (n:Nat) (es:List Ent):Prop:=∃ dx r sv p xs,H x = some (.ins c.InRun dx [("number",.int (n:Int)),("run",.ref r)])/\RunAt H r sv p xs es
theorem gB (ri:bQ es):(es.map cW).Nodup:=by
 unfold List.Nodup;rw [List.pairwise_map];refine List.Pairwise.imp (fun {a b} h e=>?_) ri;rw [e,vU] at h
 cases h
theorem jr (hg:GOk t g) (nd:(es.map cW).Nodup) (h:∀ e,e ∈ flat g ↔ e ∈ es):(flat g).Perm es:=(List.perm_ext_iff_of_nodup (bx hg.nd) (bx nd)).mpr h
def CD (c:Cs):Sp:=fun vs H Q _=>∃ x dx v,vs = [.ref x,v]/\H x = some (.ins c.InHand dx [])/\Q .non (upd H x (.ins c.InHand dx [("hand",v)]))
theorem nU:ao ["self","hand"] ["self","hand"] (ab dg):=dE
theorem iI (T:Txt K mg) (Z:Cl K mg c) (F:FunD K "__init__" "InHand.__init__" dg dV c.InHand_init fd):FnOk P w K mg base bR (1) c.InHand_init fd ["self","hand"] (CD c):=by
 refine F.okB nU (fun vs H Q E h=>?_) (fun aT A outer s H vs Q E hr h=>?_)
 ·obtain ⟨x,dx,v,rfl,_⟩:=h
  rfl
 ·obtain ⟨x,dx,v,rfl,hx,q⟩:=h;refine ⟨_,(ai (uy (bv 0) (bv 1))),?_⟩;kas_types;lcg_off;exact ⟨x,_,dx,_,rfl,hx,Z.c_InHand,Z.na2,by decide,q⟩
def Ck (c:Cs):Sp:=fun vs H Q _=>∃ x dx v u,vs = [.ref x,v,u]/\H x = some (.ins c.InRun dx [])/\Q .non (upd (upd H x (.ins c.InRun dx [("number",v)])) x (.ins c.InRun dx [("number",v),("run",u)]))
theorem qj:ao ["self","number","run"] ["self","number","run"] (ab dZ):=dE
theorem qr (T:Txt K mg) (Z:Cl K mg c) (F:FunD K "__init__" "InRun.__init__" dZ dV c.InRun_init fd):FnOk P w K mg base bR (1) c.InRun_init fd ["self","number","run"] (Ck c):=by
 refine F.okB qj (fun vs H Q E h=>?_) (fun aT A outer s H vs Q E hr h=>?_)
 ·obtain ⟨x,dx,v,u,rfl,_⟩:=h
  rfl
 ·obtain ⟨x,dx,v,u,rfl,hx,q⟩:=h;refine ⟨_,(ag (uy (bv 0) (bv 1))
  (ai (uy (bv 0) (bv 2)))),?_⟩
  kas_types;lcg_off;refine ⟨x,_,dx,_,rfl,hx,Z.c_InRun,Z.na3,by decide,?_⟩;lcg_off;exact ⟨x,_,dx,_,rfl,ak,Z.c_InRun,Z.na4,by show 1 < 1000;decide,q⟩
def CF:Sp:=fun vs H Q _=>∃ x,vs = [x]/\Q (.str (Str.ofString "hand")) H
theorem lq:ao ["self"] ["self"] (ab cA):=dE
theorem gC (T:Txt K mg) (Z:Cl K mg c) (F:FunD K "called" "InHand.called" cA dV c.InHand_called fd):FnOk P w K mg base bR (1) c.InHand_called fd ["self"] (CF):=by
 refine F.okB lq (fun vs H Q E h=>?_) (fun aT A outer s H vs Q E hr h=>?_)
 ·obtain ⟨x,rfl,_⟩:=h
  rfl
 ·obtain ⟨x,rfl,q⟩:=h;refine ⟨_,(ai (aq b_str)),?_⟩;kas_types;lcg_off;exact q
def Ct:Sp:=fun vs H Q _=>∃ x,vs = [x]/\Q (.str (Str.ofString "")) H
theorem nS:ao ["self"] ["self"] (ab de):=dE
theorem iH (T:Txt K mg) (Z:Cl K mg c) (F:FunD K "called" "Part.called" de dV c.Part_called fd):FnOk P w K mg base bR (1) c.Part_called fd ["self"] (Ct):=by
 refine F.okB nS (fun vs H Q E h=>?_) (fun aT A outer s H vs Q E hr h=>?_)
 ·obtain ⟨x,rfl,_⟩:=h
  rfl
 ·obtain ⟨x,rfl,q⟩:=h;refine ⟨_,(ai (aq b_str)),?_⟩;kas_types;lcg_off;exact q
def Cn (c:Cs):Sp:=fun vs H Q _=>∃ x n es,vs = [.ref x]/\IRun c H x n es/\n <= 9999999/\Q (.str (Str.ofString "run" ++ vF n 7)) H
theorem mN:ao ["self"] ["self"] (ab cL):=dE
theorem iu (T:Txt K mg) (Z:Cl K mg c) (F:FunD K "called" "InRun.called" cL dV c.InRun_called fd):FnOk P w K mg base bR (3) c.InRun_called fd ["self"] (Cn c):=by
 obtain ⟨_,_,sL⟩:=T.f_name_of;have Bx:=yr (P:=P) (w:=w) (base:=base) T sL;refine F.okB mN (fun vs H Q E h=>?_) (fun aT A outer s H vs Q E hr h=>?_)
 ·obtain ⟨x,n,es,rfl,_⟩:=h
  rfl
 ·obtain ⟨x,n,es,rfl,⟨dx,r,sv,p,xs,hx,R⟩,hn,q⟩:=h;refine ⟨_,(ai (aq (dB sL Bx hr.m (af (dJ (bv 0)) ae rfl)))),?_⟩;kas_types;lcg_off;refine ly Z.c_InRun Z.na3 hx rfl ?_;lcg_off;exact DS n hn q
def Cq:Sp:=fun vs H Q _=>∃ x z,vs = [x,z]/\Q (.bl false) H
theorem sX:ao ["self","key"] ["self","key"] (ab fA):=dE
theorem kD (T:Txt K mg) (Z:Cl K mg c) (F:FunD K "says" "Part.says" fA dV c.Part_says fd):FnOk P w K mg base bR (1) c.Part_says fd ["self","key"] (Cq):=by
 refine F.okB sX (fun vs H Q E h=>?_) (fun aT A outer s H vs Q E hr h=>?_)
 ·obtain ⟨x,z,rfl,_⟩:=h
  rfl
 ·obtain ⟨x,z,rfl,q⟩:=h;refine ⟨_,(ai (aq jG)),?_⟩;kas_types;lcg_off;exact q
def Cr:Sp:=fun vs H Q _=>∃ x z t,vs = [x,z,t]/\Q .non H
theorem sY:ao ["self","key","stamp"] ["self","key","stamp"] (ab fB):=dE
theorem tN (T:Txt K mg) (Z:Cl K mg c) (F:FunD K "find" "Part.find" fB dV c.Part_find fd):FnOk P w K mg base bR (1) c.Part_find fd ["self","key","stamp"] (Cr):=by
 refine F.okB sY (fun vs H Q E h=>?_) (fun aT A outer s H vs Q E hr h=>?_)
 ·obtain ⟨x,z,t,rfl,_⟩:=h
  rfl
 ·obtain ⟨x,z,t,rfl,q⟩:=h;refine ⟨_,(ai (aq fN)),?_⟩;kas_types;lcg_off;exact q
def Cu:Sp:=fun vs H Q _=>∃ x z t,vs = [x,z,t]/\∀ l H1,H l = none->Same H H1->H1 l = some (.lst [])->Q (.ref l) H1
theorem mM:ao ["self","low","high"] ["self","low","high"] (ab cK):=dE
theorem mU (T:Txt K mg) (Z:Cl K mg c) (F:FunD K "between" "Part.between" cK dV c.Part_between fd):FnOk P w K mg base bR (1) c.Part_between fd ["self","low","high"] (Cu):=by
 refine F.okB mM (fun vs H Q E h=>?_) (fun aT A outer s H vs Q E hr h=>?_)
 ·obtain ⟨x,z,t,rfl,_⟩:=h
  rfl
 ·obtain ⟨x,z,t,rfl,q⟩:=h;refine ⟨_,(ai (aq (fO ae))),?_⟩;kas_types;lcg_off;rename_i l H1 n1 s1 h1;exact q l H1 n1 s1 h1
def xS (c:Cs):Sp:=fun vs H Q _=>∃ x z t es,vs = [.ref x,.str z,.int t]/\IHand c H x es/\(es.map cW).Nodup/\es.length < 1000/\∀ v H',Same H H'->Rep H' (oE (bU z t es)) v->Q v H'
theorem nV:ao ["self","key","stamp"] ["self","key","stamp"] (ab dh):=dE
theorem eN (T:Txt K mg) (Z:Cl K mg c) (F:FunD K "find" "InHand.find" dh dV c.InHand_find fd):FnOk P w K mg base bR (3) c.InHand_find fd ["self","key","stamp"] (xS c):=by
 obtain ⟨_,_,xA,⟨_,qz,qE⟩⟩:=Z.i_Hand_find;have xo:=tQ (P:=P) (w:=w) (base:=base) T Z xA;refine F.okB nV (fun vs H Q E h=>?_) (fun aT A outer s H vs Q E hr h=>?_)
 ·obtain ⟨x,z,t,es,rfl,_⟩:=h
  rfl
 ·obtain ⟨x,z,t,es,rfl,⟨dx,a,tt,g,hx,hA,hg,hm⟩,nd,hz,q⟩:=h;have pm:=jr hg nd hm;refine ⟨_,(ai (aq (pJ Z.c_Hand Z.me_Hand_find xo aR qE qz hr.m (dJ (bv 0)) (af (bv 1) (af (bv 2) ae rfl) rfl)))),?_⟩;kas_types;lcg_off;refine ly Z.c_InHand Z.na2 hx rfl ?_;lcg_off;refine ku hA rfl ?_;lcg_off;refine A6 hA hg (by rw [pm.length_eq];exact hz) (fun v H' s' hv=>?_)
  refine q v H' s' ?_;rw [zk (es:=flat g) (fs:=es) nd (fun e _=>hm e)] at hv;exact hv
theorem jX {x:Addr} {t:Int} (W:IHand c H x es) (nd:(es.map cW).Nodup) (hz:es.length < 1000) (q:∀ v H',Same H H'->Rep H' (oE (bU z t es)) v->Q v H'):xS c [.ref x,.str z,.int t] H Q E:=⟨x,z,t,es,rfl,W,nd,hz,q⟩
def CB (c:Cs):Sp:=fun vs H Q _=>∃ x z es,vs = [.ref x,.str z]/\IHand c H x es/\(es.map cW).Nodup/\es.length < 1000/\∀ H',Same H H'->Q (.bl (bU z 999999999 es).isSome) H'
theorem nT:ao ["self","key"] ["self","key"] (ab df):=dE
theorem eM (T:Txt K mg) (Z:Cl K mg c) (F:FunD K "says" "InHand.says" df dV c.InHand_says fd):FnOk P w K mg base bR (4) c.InHand_says fd ["self","key"] (CB c):=by
 obtain ⟨_,_,cy,⟨_,bN,bP⟩⟩:=Z.i_InHand_find;have cw:=eN (P:=P) (w:=w) (base:=base) T Z cy;refine F.okB nT (fun vs H Q E h=>?_) (fun aT A outer s H vs Q E hr h=>?_)
 ·obtain ⟨x,z,es,rfl,_⟩:=h
  rfl
 ·obtain ⟨x,z,es,rfl,W,nd,hz,q⟩:=h;refine ⟨_,(ai (aq (zL DL (pJ Z.c_InHand Z.me_InHand_find cw aR bP bN hr.m (bv 0) (af (bv 1) (af (yJ T.g_GREATEST_STAMP) ae rfl) rfl)) fN (az _)))),?_⟩;kas_types;have W':=W;obtain ⟨dx,a,tt,g,hx,_⟩:=W';lcg_off;refine ⟨x,dx,_,rfl,hx,rfl,?_⟩;lcg_off;refine jX W nd hz (fun v H' s' hv=>?_)
  cases hn:bU z 999999999 es with
  | none =>
   rw [hn] at hv q;have e:v = .non:=by simpa only [oE,Rep] using hv
   subst e;lcg_off;exact q H' s'
  | some e =>
   rw [hn] at hv q;obtain ⟨cc,xx,rfl,_,_⟩:=cq (show Rep H' (au e) v from hv);lcg_off;exact q H' s'
def CG (c:Cs):Sp:=fun vs H Q _=>∃ x lo hi es,vs = [.ref x,.str lo,yA hi]/\IHand c H x es/\bQ es/\es.length < 1000/\∀ l H1 ys,H l = none->Same H H1->H1 l = some (.lst ys)->Reps H1 ((es.filter (jq lo hi)).map au) ys->Q (.ref l) H1
theorem km:ao ["self","low","high"] ["self","low","high"] (ab ck):=dE
theorem kE (T:Txt K mg) (Z:Cl K mg c) (F:FunD K "between" "InHand.between" ck dV c.InHand_between fd):FnOk P w K mg base bR (7) c.InHand_between fd ["self","low","high"] (CG c):=by
 obtain ⟨_,_,pZ,⟨_,lK,lO⟩,⟨_,AZ,Bc⟩,⟨_,AY,Bb⟩⟩:=Z.i_Hand_between;have pX:=mV (P:=P) (w:=w) (base:=base) T Z pZ;refine F.okB km (fun vs H Q E h=>?_) (fun aT A outer s H vs Q E hr h=>?_)
 ·obtain ⟨x,lo,hi,es,rfl,_⟩:=h
  rfl
 ·obtain ⟨x,lo,hi,es,rfl,⟨dx,a,tt,g,hx,hA,hg,hm⟩,ri,hz,q⟩:=h;have pm:=jr hg (gB ri) hm;refine ⟨_,(ai (aq (pJ Z.c_Hand Z.me_Hand_between pX aR lO lK hr.m (dJ (bv 0)) (af (bv 1) (af (bv 2) ae rfl) rfl)))),?_⟩;kas_types;lcg_off;refine ly Z.c_InHand Z.na2 hx rfl ?_;lcg_off;refine ku hA rfl ?_;lcg_off;refine ET hi rfl hA hg (by rw [pm.length_eq];exact hz) (fun ys fs l H1 p1 p2 p3 s1 p5 p6=>?_)
  obtain rfl:=rp (p1.trans pm) p2 ri;exact q l H1 ys p3 s1 p5 p6
def Cj (c:Cs):Sp:=fun vs H Q _=>∃ x z n es,vs = [.ref x,.str z]/\IRun c H x n es/\aL H/\∀ H1,SameB aB H H1->aL H1->Q (.bl (tU es z)) H1
theorem qi:ao ["self","key"] ["self","key"] (ab dY):=dE
theorem jI (T:Txt K mg) (kc:∀ p ∈ tabs,base.BuiltinsAt mg p) (kIn:K.In base) (Z:Cl K mg c) (F:FunD K "says" "InRun.says" dY dV c.InRun_says fd):FnOk P w K mg base bR (4) c.InRun_says fd ["self","key"] (Cj c):=by
 obtain ⟨_,_,cg⟩:=T.f_may_have;have eZ:=iG (P:=P) (w:=w) (base:=base) T kc kIn cg;refine F.okB qi (fun vs H Q E h=>?_) (fun aT A outer s H vs Q E hr h=>?_)
 ·obtain ⟨x,z,n,es,rfl,_⟩:=h
  rfl
 ·obtain ⟨x,z,n,es,rfl,⟨dx,r,sv,p,xs,hx,R⟩,tok,q⟩:=h;have LU:=R.run;refine ⟨_,(ai (aq (dB cg eZ hr.m (af (bp aC (dJ (bv 0)) b_int (fun _ _=>rfl)) (af (bv 1) ae rfl) rfl)))),?_⟩
  kas_types;lcg_off;refine ly Z.c_InRun Z.na4 hx rfl ?_;lcg_off;exact vS R tok q
def Cm (c:Cs):Sp:=fun vs H Q _=>∃ x z t n es,vs = [.ref x,.str z,.int t]/\IRun c H x n es/\aL H/\∀ v H1,SameB aB H H1->aL H1->Rep H1 (oE (bU z t es)) v->Q v H1
theorem qk:ao ["self","key","stamp"] ["self","key","stamp"] (ab d6):=dE
theorem qt (T:Txt K mg) (kc:∀ p ∈ tabs,base.BuiltinsAt mg p) (kIn:K.In base) (Z:Cl K mg c) (F:FunD K "find" "InRun.find" d6 dV c.InRun_find fd):FnOk P w K mg base bR (5) c.InRun_find fd ["self","key","stamp"] (Cm c):=by
 obtain ⟨_,_,yM⟩:=T.f_find;have ME:=G0 (P:=P) (w:=w) (base:=base) T kc kIn yM;refine F.okB qk (fun vs H Q E h=>?_) (fun aT A outer s H vs Q E hr h=>?_)
 ·obtain ⟨x,z,t,n,es,rfl,_⟩:=h
  rfl
 ·obtain ⟨x,z,t,n,es,rfl,⟨dx,r,sv,p,xs,hx,R⟩,tok,q⟩:=h;refine ⟨_,(ai (aq (O4 yM (T.al_find_runs _ yM.mgx) ME hr.m (af (dJ (bv 0)) (af (bv 1) (af (bv 2) ae rfl) rfl) rfl)))),?_⟩;kas_types;lcg_off;refine ly Z.c_InRun Z.na4 hx rfl ?_;lcg_off;exact Bk R tok q
def Co (c:Cs):Sp:=fun vs H Q _=>∃ x lo hi n es,vs = [.ref x,.str lo,yA hi]/\IRun c H x n es/\es.length < 1000/\∀ l H1 ys,H l = none->Same H H1->H1 l = some (.lst ys)->Reps H1 ((es.filter (jq lo hi)).map au) ys->Q (.ref l) H1
theorem lp:ao ["self","low","high"] ["self","low","high"] (ab cz):=dE
theorem lE (T:Txt K mg) (Z:Cl K mg c) (F:FunD K "between" "InRun.between" cz dV c.InRun_between fd):FnOk P w K mg base bR (3) c.InRun_between fd ["self","low","high"] (Co c):=by
 obtain ⟨_,_,l5⟩:=T.f_between;have By:=yt (P:=P) (w:=w) (base:=base) T l5;refine F.okB lp (fun vs H Q E h=>?_) (fun aT A outer s H vs Q E hr h=>?_)
 ·obtain ⟨x,lo,hi,n,es,rfl,_⟩:=h
  rfl
 ·obtain ⟨x,lo,hi,n,es,rfl,⟨dx,r,sv,p,xs,hx,R⟩,hz,q⟩:=h;refine ⟨_,(ai (aq (O4 l5 (T.al_between_runs _ l5.mgx) By hr.m (af (dJ (bv 0)) (af (bv 1) (af (bv 2) ae rfl) rfl) rfl)))),?_⟩;kas_types;lcg_off;refine ly Z.c_InRun Z.na4 hx rfl ?_;lcg_off;exact ⟨r,sv,p,lo,hi,xs,es,rfl,R,hz,q⟩
end
section
theorem kb (s:SameB aB H H') (t:aL H) {o:HO} (e:H a = some o) (n:∀ ps,o ≠ .tbl ps):H' a = some o:=by
 obtain ⟨qs,hT⟩:=t.tbl;exact s.toN hT _ _ e n
theorem Ek (hA:HandAt c H a t g) (s:SameB aB H H') (tok:aL H):HandAt c H' a t g:=by
 refine hA.other (S:=[aB]) (fun b o n e=>s b o e (fun z=>n (List.mem_singleton.mpr z))) (cY s tok) (fun b hb z=>?_)
 obtain ⟨qs,hT⟩:=tok.tbl;rw [List.mem_singleton.mp z] at hb
 rcases hA.kind hb with ⟨_,_,e⟩ | ⟨_,e⟩ <;> (rw [hT] at e;cases e)
def PartAt (c:Cs) (H:Hp) (v:V) (es:List Ent):Prop:=(∃ x,v = .ref x/\IHand c H x es) \/ (∃ x dx,v = .ref x/\H x = some (.ins c.Part dx [])/\es = []) \/ ∃ x n,v = .ref x/\IRun c H x n es/\n <= 9999999
theorem IHand.b {x:Addr} (h:IHand c H x es) (s:SameB aB H H') (t:aL H):IHand c H' x es:=by
 obtain ⟨dx,a,tt,g,hx,hA,hg,hm⟩:=h;exact ⟨dx,a,tt,g,kb s t hx (fun _ z=>by cases z),Ek hA s t,hg,hm⟩
theorem IRun.b {x:Addr} (h:IRun c H x n es) (s:SameB aB H H') (t:aL H):IRun c H' x n es:=by
 obtain ⟨dx,r,sv,p,xs,hx,R⟩:=h;exact ⟨dx,r,sv,p,xs,kb s t hx (fun _ z=>by cases z),R.tups (cY s t)⟩
theorem PartAt.b (h:PartAt c H v es) (s:SameB aB H H') (t:aL H):PartAt c H' v es:=by
 rcases h with ⟨x,rfl,h⟩ | ⟨x,dx,rfl,hx,e⟩ | ⟨x,n,rfl,h,hn⟩
 ·exact .inl ⟨x,rfl,h.b s t⟩
 ·exact .inr (.inl ⟨x,dx,rfl,kb s t hx (fun _ z=>by cases z),e⟩)
 ·exact .inr (.inr ⟨x,n,rfl,h.b s t,hn⟩)
section
variable {j k:Nat}
theorem Az {t : Int} (W : PartAt c H v es) (ri : bQ es) (hz : es.length < 1000) (tok : aL H) (h0 : σ[i]? = some (some v)) (h1 : σ[j]? = some (some (.str z))) (h2 : σ[k]? = some (some (.int t)))
    (q:∀ u H',SameB aB H H'->aL H'->Rep H' (oE (bU z t es)) u->Q u H'):sP (dm c.InHand "find" (xS c) [] E0 (cn i) (cG (cn j) (cG (cn k) gy))) (sP (dm c.Part "find" Cr [] E0 (cn i) (cG (cn j) (cG (cn k) gy))) (dm c.InRun "find" (Cm c) [] E0 (cn i) (cG (cn j) (cG (cn k) gy)))) σ H Q:=by
 rcases W with ⟨x,rfl,h⟩ | ⟨x,dx,rfl,hx,rfl⟩ | ⟨x,n,rfl,h,hn⟩
 ·have h':=h;obtain ⟨dx,a,tt,g,hx,_⟩:=h';exact .inl ⟨_,h0,x,dx,_,rfl,hx,rfl,_,h1,_,h2,jX (E:=E0) h (gB ri) hz fun u H' s' hu=>q u H' (.of s') (tok.same s') hu⟩
 ·refine .inr (.inl ⟨_,h0,x,dx,_,rfl,hx,rfl,_,h1,_,h2,_,_,_,rfl,q _ H SameB.refl tok ?_⟩);simp only [bU,List.foldl_nil,oE,Rep]
 ·have h':=h;obtain ⟨dx,r,sv,p,xs,hx,_⟩:=h';exact .inr (.inr ⟨_,h0,x,dx,_,rfl,hx,rfl,_,h1,_,h2,x,z,t,n,es,rfl,h,tok,q⟩)
theorem Ay (W : PartAt c H v es) (ri : bQ es) (hz : es.length < 1000) (tok : aL H) (h0 : σ[i]? = some (some v)) (h1 : σ[j]? = some (some (.str z)))
    (q:∀ b H',SameB aB H H'->aL H'->Q (.bl b) H'):sP (dm c.InHand "says" (CB c) [] E0 (cn i) (cG (cn j) gy)) (sP (dm c.Part "says" Cq [] E0 (cn i) (cG (cn j) gy)) (dm c.InRun "says" (Cj c) [] E0 (cn i) (cG (cn j) gy))) σ H Q:=by
 rcases W with ⟨x,rfl,h⟩ | ⟨x,dx,rfl,hx,rfl⟩ | ⟨x,n,rfl,h,hn⟩
 ·have h':=h;obtain ⟨dx,a,tt,g,hx,_⟩:=h';exact .inl ⟨_,h0,x,dx,_,rfl,hx,rfl,_,h1,x,z,es,rfl,h,gB ri,hz,fun H' s'=>q _ H' (.of s') (tok.same s')⟩
 ·exact .inr (.inl ⟨_,h0,x,dx,_,rfl,hx,rfl,_,h1,_,_,rfl,q _ H SameB.refl tok⟩)
 ·have h':=h;obtain ⟨dx,r,sv,p,xs,hx,_⟩:=h';exact .inr (.inr ⟨_,h0,x,dx,_,rfl,hx,rfl,_,h1,x,z,n,es,rfl,h,tok,fun H1 s1 t1=>q _ H1 s1 t1⟩)
theorem rB {hi : Option Str} (W : PartAt c H v es) (ri : bQ es) (hz : es.length < 1000) (h0 : σ[i]? = some (some v)) (h1 : σ[j]? = some (some (.str lo))) (h2 : σ[k]? = some (some (yA hi)))
    (q:∀ l H1 ys,H l = none->Same H H1->H1 l = some (.lst ys)->Reps H1 ((es.filter (jq lo hi)).map au) ys->Q (.ref l) H1):sP (dm c.InHand "between" (CG c) [] E0 (cn i) (cG (cn j) (cG (cn k) gy))) (sP (dm c.Part "between" Cu [] E0 (cn i) (cG (cn j) (cG (cn k) gy))) (dm c.InRun "between" (Co c) [] E0 (cn i) (cG (cn j) (cG (cn k) gy)))) σ H Q:=by
 rcases W with ⟨x,rfl,h⟩ | ⟨x,dx,rfl,hx,rfl⟩ | ⟨x,n,rfl,h,hn⟩
 ·have h':=h;obtain ⟨dx,a,tt,g,hx,_⟩:=h';exact .inl ⟨_,h0,x,dx,_,rfl,hx,rfl,_,h1,_,h2,x,lo,hi,es,rfl,h,ri,hz,q⟩
 ·refine .inr (.inl ⟨_,h0,x,dx,_,rfl,hx,rfl,_,h1,_,h2,_,_,_,rfl,fun l H1 n1 s1 e1=>q l H1 [] n1 s1 e1 Reps.nil'⟩)
 ·have h':=h;obtain ⟨dx,r,sv,p,xs,hx,_⟩:=h';exact .inr (.inr ⟨_,h0,x,dx,_,rfl,hx,rfl,_,h1,_,h2,x,lo,hi,n,es,rfl,h,hz,q⟩)
theorem AA (W:PartAt c H v es) (h0:σ[i]? = some (some v)) (q:∀ z:Str,Q (.str z) H):sP (dm c.InHand "called" CF [] E0 (cn i) gy) (sP (dm c.Part "called" Ct [] E0 (cn i) gy) (dm c.InRun "called" (Cn c) [] E0 (cn i) gy)) σ H Q:=by
 rcases W with ⟨x,rfl,h⟩ | ⟨x,dx,rfl,hx,rfl⟩ | ⟨x,n,rfl,h,hn⟩
 ·obtain ⟨dx,a,tt,g,hx,_⟩:=h;exact .inl ⟨_,h0,x,dx,_,rfl,hx,rfl,_,rfl,q _⟩
 ·exact .inr (.inl ⟨_,h0,x,dx,_,rfl,hx,rfl,_,rfl,q _⟩)
 ·have h':=h;obtain ⟨dx,r,sv,p,xs,hx,_⟩:=h';exact .inr (.inr ⟨_,h0,x,dx,_,rfl,hx,rfl,x,n,es,rfl,h,hn,q _⟩)
theorem GU (Z:Cl K mg c) (W:PartAt c H v es) (q:Q (.bl true) H):Nx K [v,.ref c.Part] H Q:=by
 rcases W with ⟨x,rfl,h⟩ | ⟨x,dx,rfl,hx,rfl⟩ | ⟨x,n,rfl,h,hn⟩
 ·obtain ⟨dx,a,tt,g,hx,_⟩:=h;exact ⟨x,_,dx,_,_,true,rfl,hx,⟨Z.xg_InHand,Z.xa_InHand,Z.xn,Z.xt,Z.xm_InHand,Z.xk_InHand⟩,Z.xo_InHand,q⟩
 ·exact ⟨x,_,dx,_,_,true,rfl,hx,⟨Z.xg_Part,Z.xa_Part,Z.xn,Z.xt,Z.xm_Part,Z.xk_Part⟩,Z.xo_Part,q⟩
 ·obtain ⟨dx,r,sv,p,xs,hx,_⟩:=h;exact ⟨x,_,dx,_,_,true,rfl,hx,⟨Z.xg_InRun,Z.xa_InRun,Z.xn,Z.xt,Z.xm_InRun,Z.xk_InRun⟩,Z.xo_InRun,q⟩
end
theorem rP {t:Int} {o p:Option Ent} (nd:(es.map cW).Nodup) (h1:pR z t es o) (h2:pR z t es p):o = p:=by
 cases o with
 | none =>
  cases p with
  | none=>rfl
  | some f =>
   obtain ⟨b1,b2,b3,b4⟩:=h2;exact (h1 f b1 b2 b3).elim
 | some e =>
  obtain ⟨a1,a2,a3,a4⟩:=h1
  cases p with
  | none=>exact (h2 e a1 a2 a3).elim
  | some f =>
   obtain ⟨b1,b2,b3,b4⟩:=h2;have c1:=a4 f b1 b2 b3;have c2:=b4 e a1 a2 a3;have c3:e.2.1 = f.2.1:=by omega
   rw [CW nd a1 b1 (by show ((e.1,-e.2.1):RK) = (f.1,-f.2.1);rw [a2,b2,c3])]
theorem Bj {t:Int} (ri:bQ es):firstM (kz z es) t = bU z t es:=by
 refine rP (gB ri) ?_ (rQ z t es);have hk:∀ f,f ∈ kz z es ↔ f ∈ es/\f.1 = z:=fun f=>by unfold kz;rw [List.mem_filter];simp
 cases h:firstM (kz z es) t with
 | none =>
  intro f hf hz ht;have:=List.find?_eq_none.mp h f ((hk f).mpr ⟨hf,hz⟩);simp [ht] at this
 | some e =>
  obtain ⟨hp,as,bs,Ic,has⟩:=List.find?_eq_some_iff_append.mp h;have he:e ∈ kz z es:=by rw [Ic];exact List.mem_append.mpr (.inr List.mem_cons_self)
  obtain ⟨e1,e2⟩:=(hk e).mp he;refine ⟨e1,e2,of_decide_eq_true hp,fun f hf hz ht=>?_⟩
  have TF:=(hk f).mpr ⟨hf,hz⟩;have rk:(kz z es).Pairwise fun a b=>fX (cW a) (cW b) = true:=List.Pairwise.sublist List.filter_sublist ri
  rw [Ic] at TF rk
  rcases List.mem_append.mp TF with h1 | h1
  ·have:=has f h1;simp [ht] at this
  ·rcases List.mem_cons.mp h1 with rfl | h1
   ·exact Int.le_refl _
   ·have h2:=(List.pairwise_cons.mp (List.pairwise_append.mp rk).2.1).1 f h1;unfold fX at h2;rw [if_pos (show (cW e).1 = (cW f).1 from e2.trans hz.symm)] at h2;have h3:-e.2.1 < -f.2.1:=of_decide_eq_true h2;omega
theorem wB (e:Ent):(au e).dep <= 1:=by
 unfold au
 cases e.2.2 <;> simp [oD,D.dep,D.deps]
theorem Kg {u:V} (o:Option Ent) (h1:Rep H (oE o) v) (h2:Rep H (oE o) u) (q:Q (.bl false) H):ql v u H Q:=by
 refine ⟨oE o,oE o,h1,h2,?_,?_,by rw [eI];exact q⟩
 all_goals (cases o with
  | none=>simp [oE,D.dep]
  | some e=>have:=wB e;simp only [oE];omega)
def Cz (K:W.Frag):Sp:=fun vs H Q _=>∃ (p:Addr) (lo:Str) (hi:Option Str) (xs:List V) (es:List Ent),vs = [.ref p,.str lo,yA hi]/\H p = some (.lst xs)/\Reps H (es.map au) xs/\es.length < 1000/\∀ l H1 ys,H l = none->Same H H1->H1 l = some (.lst ys)->Reps H1 ((es.filter (jq lo hi)).map au) ys->Q (.ref l) H1
theorem mL:ao ["_law_row","_law_low","_law_high"] ["_law_row","_law_low","_law_high"] (ab bY):=dE
theorem mT (T:Txt K mg) (N:Fn K mg "_law_between" bY ["_law_row","_law_low","_law_high"] f fd):FnOk P w K mg base bR (1) f fd ["_law_row","_law_low","_law_high"] (Cz K):=by
 refine N.fu.okB mL (fun vs H Q E h=>?_) (fun aT A outer s H vs Q E hr h=>?_)
 ·obtain ⟨p,lo,hi,xs,es,rfl,_⟩:=h
  rfl
 ·obtain ⟨p,lo,hi,xs,es,rfl,hp,cC,hz,q⟩:=h;obtain ⟨L,l1,l2,l3⟩:=aX cC;have xB:xs.length = es.length:=by rw [<- l1,<- l2,List.length_map,List.length_map]
  refine ⟨_,(ai (aq (wY (x:="_law_entry") (ix:=[1,2]) (fv:=["_law_low","_law_high"]) (osc:=ab bY) rfl ⟨rfl,by decide +kernel,by decide +kernel,by rfl,by decide +kernel,by decide +kernel,by decide +kernel⟩ (by rfl) (bo (bv 0)) (fun _ _ _ _=>(ES (hX (iQ (ay Hg (bv 1) (bp (eh (K:=K) rfl) (bv 0) b_int (fun _ _=>rfl)) (az _)) (fM (hX (gO (ay Lp (bv 2) fN (az _)) (eU (ay Hf (bp (eh (K:=K) rfl) (bv 0) b_int (fun _ _=>rfl)) (bv 2) (az _)))))))))) (fun _ _ _ _=>(bv 0))))),?_⟩
  kas_types;lcg_off;refine NY (xs:=xs) (fun i us F=>Same H F/\Reps F (((es.take i).filter (jq lo hi)).map au) us/\us.length <= i) (by rw [xB,sizeLine_eq];omega) ⟨Same.refl _,by simp only [List.take_zero,List.filter_nil,List.map_nil,Reps],Nat.le_refl _⟩ (fun i us F h=>⟨SqL.of (h.1 _ _ hp),h.2.2⟩) (fun i v us F hv h=>?_) (fun us Qv F F1 h Rh sF hF=>?_)
  ·obtain ⟨f1,f2,f3⟩:=h;rw [<- l2,List.getElem?_map] at hv;obtain ⟨te,ud,rfl⟩:=Option.map_eq_some_iff.mp hv;have A8:es[i]? = some te.1:=by rw [<- l1,List.getElem?_map,ud];rfl
   obtain ⟨kJ,xD⟩:=List.getElem?_eq_some_iff.mp A8;have jY:=(l3 te (List.mem_of_getElem? ud)).same f1;obtain ⟨c,x,ec,hc,hx⟩:=cq jY;rw [ec] at jY;rw [ec];have ue:(es.take (i + 1)).filter (jq lo hi) = (es.take i).filter (jq lo hi) ++ if jq lo hi te.1 = true then [te.1] else []:=by rw [List.take_succ_eq_append_getElem kJ,xD,rX]
   have yes:jq lo hi te.1 = true->Same H F/\Reps F (((es.take (i + 1)).filter (jq lo hi)).map au) (us ++ [.ref c])/\(us ++ [V.ref c]).length <= i + 1:=fun hy=>by
    refine ⟨f1,?_,by rw [List.length_append];simp;omega⟩;rw [ue,if_pos hy,List.map_append];exact Reps.snoc f2 jY
   have no:jq lo hi te.1 = false->Same H F/\Reps F (((es.take (i + 1)).filter (jq lo hi)).map au) us/\us.length <= i + 1:=fun hn=>by
    refine ⟨f1,?_,by omega⟩;rw [ue,if_neg (by rw [hn];simp),List.append_nil];exact f2
   cases hi with
   | none =>
    dsimp only [yA];lcg_off;refine t8 (fun h0=>?_) (fun h0=>?_)
    ·lcg_off;exact yes (wc h0)
    ·rw [if_neg (by simp)];exact no (ub h0)
   | some hz =>
    dsimp only [yA];lcg_off;refine t8 (fun h0=>?_) (fun h0=>?_)
    ·lcg_off;refine Jm (fun h1=>?_) (fun h1=>?_)
     ·lcg_off;exact yes ((kH h0).trans h1)
     ·exact no ((kH h0).trans h1)
    ·rw [if_neg (by simp)];exact no (ub h0)
  obtain ⟨f1,f2,_⟩:=h;rw [xB,List.take_length] at f2;exact q Qv F1 us (Same.free f1 Rh) (Same.tr sF f1) hF (f2.same sF)
theorem D1 (hi:Option Str) (es:List Ent) (hp:H p = some (.lst xs)) (cC:Reps H (es.map au) xs) (hz:es.length < 1000) (q:∀ l H1 ys,H l = none->Same H H1->H1 l = some (.lst ys)->Reps H1 ((es.filter (jq lo hi)).map au) ys->Q (.ref l) H1):Cz K [.ref p,.str lo,yA hi] H Q E:=⟨p,lo,hi,xs,es,rfl,hp,cC,hz,q⟩
end
section
def zP (H:Hp) (v:V):Prop:=∃ b lo hi,v = .ref b/\H b = some (.tup [.str lo,yA hi])
def xR (c:Cs):Sp:=fun vs H Q _=>∃ (v:V) (p pw ps pb:Addr) (xs:List V) (es:List Ent) (ws:List Str) (ss:List Int) (bs:List V),vs = [v,.ref p,.ref pw,.ref ps,.ref pb]/\PartAt c H v es/\bQ es/\es.length < 1000/\H p = some (.lst xs)/\Reps H (es.map au) xs/\H pw = some (.lst (ws.map V.str))/\H ps = some (.lst (ss.map V.int))/\H pb = some (.lst bs)/\(∀ b ∈ bs,zP H b)/\aL H/\∀ H',SameB aB H H'->aL H'->Q (.bl true) H'
theorem bH:ao ["_law_part","_law_row","_law_words","_law_stamps_here","_law_bounds","_law_word","_law_stamp","_law_low","_law_high","_law_due","_law_found"] ["_law_part","_law_row","_law_words","_law_stamps_here","_law_bounds"] (ab fo):=dE
theorem tK (T:Txt K mg) (kc:∀ p ∈ tabs,base.BuiltinsAt mg p) (kIn:K.In base) (Z:Cl K mg c) (N:Fn K mg "_law_told" fo ["_law_part","_law_row","_law_words","_law_stamps_here","_law_bounds"] f fd):FnOk P w K mg base bR (8) f fd ["_law_part","_law_row","_law_words","_law_stamps_here","_law_bounds"] (xR c):=by
 obtain ⟨_,_,iU⟩:=T.f__law_between;have pV:=mT (P:=P) (w:=w) (base:=base) T iU;obtain ⟨_,_,k9⟩:=T.f__law_first;have uL:=qq (P:=P) (w:=w) (base:=base) T k9;obtain ⟨_,_,eY⟩:=T.f__law_all_entries;have j8:=jE (P:=P) (w:=w) (base:=base) T eY;obtain ⟨_,_,l8,⟨_,eQ,eS⟩⟩:=Z.i_InHand_between;have gR:=kE (P:=P) (w:=w) (base:=base) T Z l8;obtain ⟨_,_,pY,⟨_,gI,gM⟩⟩:=Z.i_Part_between;have iZ:=mU (P:=P) (w:=w) (base:=base) T Z pY;obtain ⟨_,_,nA,⟨_,fK,fL⟩⟩:=Z.i_InRun_between;have iA:=lE (P:=P) (w:=w) (base:=base) T Z nA;obtain ⟨_,_,dN,⟨_,cP,cS⟩⟩:=Z.i_InHand_called;have dM:=gC (P:=P) (w:=w) (base:=base) T Z dN;obtain ⟨_,_,gn,⟨_,dF,dH⟩⟩:=Z.i_Part_called;have gj:=iH (P:=P) (w:=w) (base:=base) T Z gn;obtain ⟨_,_,fe,⟨_,cZ,c7⟩⟩:=Z.i_InRun_called;have fb:=iu (P:=P) (w:=w) (base:=base) T Z fe;obtain ⟨_,_,cy,⟨_,bN,bP⟩⟩:=Z.i_InHand_find;have cw:=eN (P:=P) (w:=w) (base:=base) T Z cy;obtain ⟨_,_,xu,⟨_,qw,qB⟩⟩:=Z.i_Part_find;have xk:=tN (P:=P) (w:=w) (base:=base) T Z xu;obtain ⟨_,_,uP,⟨_,oH,oN⟩⟩:=Z.i_InRun_find;have uN:=qt (P:=P) (w:=w) (base:=base) T kc kIn Z uP;obtain ⟨_,_,cx,⟨_,bM,bO⟩⟩:=Z.i_InHand_says;have cv:=eM (P:=P) (w:=w) (base:=base) T Z cx;obtain ⟨_,_,i0,⟨_,fY,f'⟩⟩:=Z.i_Part_says;have iY:=kD (P:=P) (w:=w) (base:=base) T Z i0;obtain ⟨_,_,h9,⟨_,cO,cR⟩⟩:=Z.i_InRun_says;have en:=jI (P:=P) (w:=w) (base:=base) T kc kIn Z h9;refine N.fu.okB bH (fun vs H Q E h=>?_) (fun aT A outer s H vs Q E hr h=>?_)
 ·obtain ⟨v,p,pw,ps,pb,xs,es,ws,ss,bs,rfl,_⟩:=h
  rfl
 ·obtain ⟨v,p,pw,ps,pb,xs,es,ws,ss,bs,rfl,W,ri,hz,hp,cC,hw,hs,hb,M0,tok,q⟩:=h;refine ⟨_,(ag (cF PassesOwn.never rfl (bo (bv 2)) (bA (i:=5) bH.nd rfl (.inl rfl))
   (ag (cF PassesOwn.never rfl (bo (bv 3)) (bA (i:=6) bH.nd rfl (.inl rfl))
   (ai (bh (ay (jJ (aH hr)) (jN (pJ Z.c_InHand Z.me_InHand_find cw aR bP bN hr.m (bv 0) (af (bv 5) (af (bv 6) ae rfl) rfl)) (jN (pJ Z.c_Part Z.me_Part_find xk aR qB qw hr.m (bv 0) (af (bv 5) (af (bv 6) ae rfl) rfl)) (pJ Z.c_InRun Z.me_InRun_find uN aR oN oH hr.m (bv 0) (af (bv 5) (af (bv 6) ae rfl) rfl)))) (dB k9 uL hr.m (af (bv 1) (af (bv 5) (af (bv 6) ae rfl) rfl) rfl)) (az _))
   (ai (aq jG))
   aA)))
  (ai (bh (c8 (cT (mD dv T.b_isinstance (by kernel_rfl) (af (jN (pJ Z.c_InHand Z.me_InHand_says cv aR bO bM hr.m (bv 0) (af (bv 5) ae rfl)) (jN (pJ Z.c_Part Z.me_Part_says iY aR f' fY hr.m (bv 0) (af (bv 5) ae rfl)) (pJ Z.c_InRun Z.me_InRun_says en aR cR cO hr.m (bv 0) (af (bv 5) ae rfl)))) (af (wX (T:="bool") T.b_bool (by kernel_rfl)) ae rfl) rfl)) (fun _=>rfl)))
   (ai (aq jG))
   aA))))
  (ag (cF PassesOwn.never rfl (bo (bv 4)) (ER rfl (kR (bA (i:=7) bH.nd rfl (.inl rfl)) (kR (bA (i:=8) bH.nd rfl (.inl rfl)) zH)))
   (ag (aw (i:=9) bH.nd rfl (.inl rfl) (dB iU pV hr.m (af (bv 1) (af (bv 7) (af (bv 8) ae rfl) rfl) rfl)))
  (ag (aw (i:=10) bH.nd rfl (.inl rfl) (jN (pJ Z.c_InHand Z.me_InHand_between gR aR eS eQ hr.m (bv 0) (af (bv 7) (af (bv 8) ae rfl) rfl)) (jN (pJ Z.c_Part Z.me_Part_between iZ aR gM gI hr.m (bv 0) (af (bv 7) (af (bv 8) ae rfl) rfl)) (pJ Z.c_InRun Z.me_InRun_between iA aR fL fK hr.m (bv 0) (af (bv 7) (af (bv 8) ae rfl) rfl)))))
  (ag (bh (hX (gO (c8 (cT (dB eY j8 hr.m (af (bv 10) ae rfl)) (fun _=>rfl))) (eU (ay (jJ (aH hr)) (bv 10) (bv 9) (az _)))))
   (ai (aq jG))
   aA)
  (ag (jv (lW (bv 10) (af fN ae rfl)))
  (ai (bh (ay (jJ (aH hr)) (jN (pJ Z.c_InHand Z.me_InHand_between gR aR eS eQ hr.m (bv 0) (af (bv 7) (af (bv 8) ae rfl) rfl)) (jN (pJ Z.c_Part Z.me_Part_between iZ aR gM gI hr.m (bv 0) (af (bv 7) (af (bv 8) ae rfl) rfl)) (pJ Z.c_InRun Z.me_InRun_between iA aR fL fK hr.m (bv 0) (af (bv 7) (af (bv 8) ae rfl) rfl)))) (bv 9) (az _))
   (ai (aq jG))
   aA)))))))
  (ai (aq (EZ (mD OV T.b_isinstance (by kernel_rfl) (af (bv 0) (af (yJ (v:=.ref c.Part) ⟨_,Z.m_Part,rfl⟩) ae rfl) rfl)) (EW (mD dv T.b_isinstance (by kernel_rfl) (af (jN (yI Z.c_InHand Z.me_InHand_called dM aR cS cP hr.m (bv 0)) (jN (yI Z.c_Part Z.me_Part_called gj aR dH dF hr.m (bv 0)) (yI Z.c_InRun Z.me_InRun_called fb aR c7 cZ hr.m (bv 0)))) (af (wX (T:="str") T.b_str (by kernel_rfl)) ae rfl) rfl)))))))),?_⟩
  kas_types;have nl:∀ {xs:List V} (ps),HO.lst xs ≠ .tbl ps:=fun _ z=>by cases z
  lcg_off;refine forL (xs:=ws.map V.str) (fun i σ G=>∃ o5 o6:Option V,σ = [some v,some (.ref p),some (.ref pw),some (.ref ps),some (.ref pb),o5,o6,none,none,none,none]/\SameB aB H G/\aL G) ⟨none,none,rfl,SameB.refl,tok⟩ (fun i σ G h=>by obtain ⟨_,_,rfl,s,t⟩:=h;exact SqL.of (kb s tok hw nl)) (fun i x σ G hi hx h=>?_) (fun σ G h=>?_)
  ·obtain ⟨o5,o6,rfl,sG,tG⟩:=h;rw [List.getElem?_map] at hx;obtain ⟨z,QW,rfl⟩:=Option.map_eq_some_iff.mp hx;lcg_off;refine yf (SqL.of (kb sG tok hs nl)) ?_;refine forL (xs:=ss.map V.int) (fun i σ F=>∃ o6:Option V,σ = [some v,some (.ref p),some (.ref pw),some (.ref ps),some (.ref pb),some (.str z),o6,none,none,none,none]/\SameB aB H F/\aL F) ⟨o6,rfl,sG,tG⟩ (fun i σ F h=>by obtain ⟨_,rfl,s,t⟩:=h;exact SqL.of (kb s tok hs nl)) (fun k y σ F hk hy h=>?_) (fun σ F h=>?_)
   ·obtain ⟨o6,rfl,sF,tF⟩:=h;rw [List.getElem?_map] at hy;obtain ⟨t,Z2,rfl⟩:=Option.map_eq_some_iff.mp hy;lcg_off;refine Az (z:=z) (t:=t) (W.b sF tok) ri hz tF rfl rfl rfl (fun u F1 s1 t1 hu=>?_)
    have s2:SameB aB H F1:=sF.trans s1;have Jw:=kb s2 tok hp nl;have wu:=aI cC (cY s2 tok);lcg_off;refine Bi es Jw wu (fun w PJ=>?_)
    have Oa:Rep F1 (oE (bU z t es)) w:=by
     rw [<- Bj ri]
     cases e:firstM (kz z es) t with
     | none=>rw [e] at PJ;rw [PJ];simp only [oE,Rep]
     | some f=>rw [e] at PJ;exact PJ.1
    refine Kg _ hu Oa ?_;lcg_off;exact ⟨_,rfl,s2,t1⟩
   ·obtain ⟨o6,rfl,sF,tF⟩:=h;lcg_off;refine Ay (z:=z) (W.b sF tok) ri hz tF rfl rfl (fun b F1 s1 t1=>?_)
    lcg_off;exact ⟨_,_,rfl,sF.trans s1,t1⟩
  ·obtain ⟨o5,o6,rfl,sG,tG⟩:=h;lcg_off;refine yf (SqL.of (kb sG tok hb nl)) ?_;refine forL (xs:=bs) (fun i σ F=>∃ o7 o8 o9 QI:Option V,σ = [some v,some (.ref p),some (.ref pw),some (.ref ps),some (.ref pb),o5,o6,o7,o8,o9,QI]/\SameB aB H F/\aL F) ⟨none,none,none,none,rfl,sG,tG⟩ (fun i σ F h=>by obtain ⟨_,_,_,_,rfl,s,t⟩:=h;exact SqL.of (kb s tok hb nl)) (fun k y σ F hk hy h=>?_) (fun σ F h=>?_)
   ·obtain ⟨o7,o8,o9,QI,rfl,sF,tF⟩:=h;obtain ⟨b,lo,hi,rfl,RH⟩:=M0 y (List.mem_of_getElem? hy);have Bd:=kb sF tok RH (fun _ z=>by cases z)
    have Jw:=kb sF tok hp nl;have wu:=aI cC (cY sF tok);lcg_off;refine D1 hi es Jw wu hz (fun l1 F1 Sw n1 s1 h1 r1=>?_)
    have W1:=(W.b sF tok).b (.of s1) tF;lcg_off;refine rB W1 ri hz rfl rfl rfl (fun l2 F2 Pj n2 s2 h2 r2=>?_)
    have MJ:Same F F2:=s1.trans s2;lcg_off;refine IF _ h2 r2 ?_;lcg_off;refine DQ _ h2 r2 (s2 _ _ h1) (aI r1 (.of s2)) ?_;lcg_off;refine lz h2 ?_ ?_
    ·have:=iD r2;have:=List.length_filter_le (jq lo hi) es;rw [sizeLine_eq];omega
    have nF:F l2 = none:=s1.free n2;have QL:l1 ≠ l2:=fun z=>by rw [z] at h1;rw [h1] at n2;cases n2
    have sU:Same F (upd F2 l2 (.lst (Pj ++ [.non]))):=bC MJ nF;have W0:upd F2 l2 (.lst (Pj ++ [.non])) l1 = some (.lst Sw):=by rw [aj QL];exact s2 _ _ h1
    have Vt:Reps (upd F2 l2 (.lst (Pj ++ [.non]))) ((es.filter (jq lo hi)).map au) Sw:=aI r1 ((Tups.of s2).trans (Tups.upd fun vs e=>by rw [h2] at e;cases e))
    generalize upd F2 l2 (.lst (Pj ++ [.non])) = FU at *;have WU:=(W.b sF tok).b (.of sU) tF;clear h1 h2 r1 r2 s1 s2 MJ;lcg_off;refine rB WU ri hz rfl rfl rfl (fun l3 F3 YF n3 s3 h3 r3=>?_);lcg_off;refine DQ _ h3 r3 (s3 _ _ W0) (aI Vt (.of s3)) ?_;lcg_off;exact ⟨_,_,_,_,rfl,sF.trans (.of (sU.trans s3)),tF.same (sU.trans s3)⟩
   ·obtain ⟨o7,o8,o9,QI,rfl,sF,tF⟩:=h;lcg_off;refine GU Z (W.b sF tok) ?_;lcg_off;refine AA (W.b sF tok) rfl (fun z=>?_)
    lcg_off;exact q F sF tF
theorem BP {ps pb:Addr} {ss:List Int} {bs:List V} (W:PartAt c H v es) (ri:bQ es) (hz:es.length < 1000) (hp:H p = some (.lst xs)) (cC:Reps H (es.map au) xs) (hw:H pw = some (.lst (ws.map V.str))) (hs:H ps = some (.lst (ss.map V.int))) (hb:H pb = some (.lst bs)) (M0:∀ b ∈ bs,zP H b) (tok:aL H) (q:∀ H',SameB aB H H'->aL H'->Q (.bl true) H'):xR c [v,.ref p,.ref pw,.ref ps,.ref pb] H Q E:=⟨v,p,pw,ps,pb,xs,es,ws,ss,bs,rfl,W,ri,hz,hp,cC,hw,hs,hb,M0,tok,q⟩
end
section
theorem FI (xC:∀ e ∈ es,e.2.1 < 10 ^ 9):(bU z 999999999 es).isSome = decide (z ∈ es.map (·.1)):=by
 have h:=rQ z 999999999 es
 cases hn:bU z 999999999 es with
 | none =>
  rw [hn] at h;refine (decide_eq_false fun hm=>?_).symm;obtain ⟨e,he,rfl⟩:=List.mem_map.mp hm;have:=xC e he;exact h e he rfl (by omega)
 | some e =>
  rw [hn] at h;refine (decide_eq_true ?_).symm;exact List.mem_map.mpr ⟨e,h.1,h.2.1⟩
theorem oF {F : Addr -> Hp -> Prop} (q : ∀ x dx H', H x = none -> Same H H' -> H' x = some (.ins c.InHand dx [("hand", .ref a)]) -> F x H') :
    ∀ x dx,H x = none->H dx = none->dx ≠ x->CD c [.ref x,.ref a] (upd (upd H dx (.own x)) x (.ins c.InHand dx [])) (fun v H2=>v = .non/\F x H2) E:=by
 intro x dx hx Oz hne;exact ⟨x,dx,.ref a,rfl,ak,rfl,q x dx _ hx (bC (bC (aE Oz) hx) hx) ak⟩
theorem wb {z:Str}:∀ ws:List Str,PF (.str z) (ws.map V.str) = decide (z ∈ ws)
 | []=>rfl
 | w :: ws=>by
  have ih:=wb (z:=z) ws;unfold PF at ih ⊢;rw [List.map_cons,List.any_cons,ih]
  by_cases h:w = z
  ·subst h;simp [Fo]
  ·have h':¬ z = w:=fun e=>h e.symm
   simp [Fo,h,h']
theorem C7 (h1:SqL K H p (ws.map V.str)) (q:Q (.bl (decide (z ∈ ws))) H):Pw K false (.str z) (.ref p) H Q:=⟨p,_,rfl,.inl h1,rfl,rW ws,by rw [wb];exact q⟩
theorem KC (es:List Ent) (h:H p = some (.lst xs)) (h2:Reps H (es.map au) xs) (h':H p' = some (.lst [])) (q:Q (.bl es.isEmpty) H):tw (.ref p) (.ref p') H Q:=by
 have:=nK (es:=es);refine ⟨jB es,.lst [],kr h h2,Rep.mkL h' Reps.nil',by omega,by simp [D.dep,D.deps],?_⟩;have e:av (jB es) (.lst []) = es.isEmpty:=by cases es <;> simp [jB,av,cX]
 rw [e];exact q
def Cg (c:Cs) (K:W.Frag):Sp:=fun vs H Q _=>∃ (a t sv p pw:Addr) (vr:V) (g:GS) (xs:List V) (es:List Ent) (ws:List Str),vs = [.ref a,vr,.ref sv,.ref p,.ref pw]/\HandAt c H a t g/\GOk t g/\(∀ e,e ∈ flat g ↔ e ∈ es)/\bQ es/\es.length < 1000/\(∀ e ∈ es,e.2.1 < 10 ^ 9)/\(es = [] \/ ∃ x n,vr = .ref x/\IRun c H x n es/\H sv = some (.tup [.int (fV es),.int (iB es)]))/\H p = some (.lst xs)/\Reps H (es.map au) xs/\H pw = some (.lst (ws.map V.str))/\aL H/\∀ H',SameB aB H H'->aL H'->Q (.bl true) H'
theorem gU:ao ["_law_hand","_law_run","_law_sieve","_law_row","_law_words","_law_there","_law_word"] ["_law_hand","_law_run","_law_sieve","_law_row","_law_words"] (ab dt):=dE
theorem tL (T:Txt K mg) (kc:∀ p ∈ tabs,base.BuiltinsAt mg p) (kIn:K.In base) (Z:Cl K mg c) (N:Fn K mg "_law_says" dt ["_law_hand","_law_run","_law_sieve","_law_row","_law_words"] f fd):FnOk P w K mg base bR (6) f fd ["_law_hand","_law_run","_law_sieve","_law_row","_law_words"] (Cg c K):=by
 obtain ⟨_,_,cg⟩:=T.f_may_have;have eZ:=iG (P:=P) (w:=w) (base:=base) T kc kIn cg;obtain ⟨_,_,cx,⟨_,bM,bO⟩⟩:=Z.i_InHand_says;have cv:=eM (P:=P) (w:=w) (base:=base) T Z cx;obtain ⟨_,_,h9,⟨_,cO,cR⟩⟩:=Z.i_InRun_says;have en:=jI (P:=P) (w:=w) (base:=base) T kc kIn Z h9;obtain ⟨_,_,gp,⟨_,dG,dI⟩⟩:=Z.i_InHand_init;have gm:=iI (P:=P) (w:=w) (base:=base) T Z gp;refine N.fu.okB gU (fun vs H Q E h=>?_) (fun aT A outer s H vs Q E hr h=>?_)
 ·obtain ⟨a,t,sv,p,pw,vr,g,xs,es,ws,rfl,_⟩:=h
  rfl
 ·obtain ⟨a,t,sv,p,pw,vr,g,xs,es,ws,rfl,hA,hg,hm,ri,hz,xC,LR,hp,cC,hw,tok,q⟩:=h;obtain ⟨L,l1,l2,l3⟩:=aX cC;have xB:xs.length = es.length:=iD cC;refine ⟨_,(ag (wU (x:="_law_entry") (ix:=[]) (fv:=[]) (osc:=ab dt) rfl ⟨rfl,by decide +kernel,by decide +kernel,by rfl,by decide +kernel,by decide +kernel,by decide +kernel⟩ (by rfl) (bo (bv 3)) (fun _ _ _ _=>hZ) (fun _ _ _ _=>(bp (eh (K:=K) rfl) (bv 0) b_int (fun _ _=>rfl))) (iy:=5) gU.nd rfl (.inl rfl))
  (ag (cF PassesOwn.never rfl (bo (bv 4)) (bA (i:=6) gU.nd rfl (.inl rfl))
   (ag (bh (ay (jJ (aH hr)) (pJ Z.c_InHand Z.me_InHand_says cv aR bO bM hr.m (My Z.mk_InHand gm aR dI dG hr.m Z.m_InHand (af (bv 0) ae rfl)) (af (bv 6) ae rfl)) (zL rE (bv 6) (bv 5) rfl) (az _))
   (ai (aq jG))
   aA)
  (ag (bh (ay (fI (aH hr)) (bv 3) (fO ae) (az _))
   (ai wV)
   aA)
  (ai (bh (hX (gO (hX (iQ (ay rE (bv 6) (bv 5) rfl) (fM (c8 (cT (pJ Z.c_InRun Z.me_InRun_says en aR cR cO hr.m (bv 1) (af (bv 6) ae rfl)) (fun _=>rfl)))))) (eU (ay (jJ (aH hr)) (pJ Z.c_InRun Z.me_InRun_says en aR cR cO hr.m (bv 1) (af (bv 6) ae rfl)) (dB cg eZ hr.m (af (bv 2) (af (bv 6) ae rfl) rfl)) (az _)))))
   (ai (aq jG))
   aA)))))
  (ai (aq jG)))),?_⟩
  kas_types;have nl:∀ {xs:List V} (ps),HO.lst xs ≠ .tbl ps:=fun _ z=>by cases z
  lcg_off;refine AN (xs:=xs) (fun i ys F=>F = H/\i <= es.length/\ys = ((es.take i).map (·.1)).map V.str) (by rw [xB,sizeLine_eq];omega) ⟨rfl,Nat.zero_le _,rfl⟩ (fun i ys F h=>by obtain ⟨rfl,h1,rfl⟩:=h;exact ⟨SqL.of hp,by rw [List.length_map,List.length_map,List.length_take];omega⟩) (fun i v ys F hv h=>?_) (fun ys pt F H1 h n1 s1 h1=>?_)
  ·obtain ⟨rfl,k1,rfl⟩:=h;rw [<- l2,List.getElem?_map] at hv;obtain ⟨te,ud,rfl⟩:=Option.map_eq_some_iff.mp hv;have A8:es[i]? = some te.1:=by rw [<- l1,List.getElem?_map,ud];rfl
   obtain ⟨kJ,xD⟩:=List.getElem?_eq_some_iff.mp A8;obtain ⟨cc,xx,ec,oK,QZ⟩:=cq (l3 te (List.mem_of_getElem? ud));rw [ec];lcg_off;refine ⟨rfl,kJ,?_⟩;rw [List.take_succ_eq_append_getElem kJ,xD,List.map_append,List.map_append]
   rfl
  obtain ⟨rfl,_,rfl⟩:=h;rw [xB,List.take_length] at h1;have Fb:=tok.same s1;have MQ:=s1 _ _ hw;have Jw:=s1 _ _ hp;have M4:=hA.same s1;lcg_off;refine forL (xs:=ws.map V.str) (fun i σ G=>∃ o6:Option V,σ = [some (.ref a),some vr,some (.ref sv),some (.ref p),some (.ref pw),some (.ref pt),o6]/\SameB aB H1 G/\aL G) ⟨none,rfl,SameB.refl,Fb⟩ (fun i σ G h=>by obtain ⟨_,rfl,s,t⟩:=h;exact SqL.of (kb s Fb MQ nl)) (fun i x σ G hi hx h=>?_) (fun σ G h=>?_)
  ·obtain ⟨o6,rfl,sG,tG⟩:=h;rw [List.getElem?_map] at hx;obtain ⟨z,QW,rfl⟩:=Option.map_eq_some_iff.mp hx;have W9:=Ek M4 sG Fb;lcg_off;refine oF (fun y dx G2 n2 s2 hx2=>?_)
   have W:IHand c G2 y es:=⟨dx,a,t,g,hx2,W9.same s2,hg,hm⟩;lcg_off;refine ⟨y,dx,_,rfl,hx2,rfl,?_⟩;lcg_off;refine ⟨y,z,es,rfl,W,gB ri,hz,fun G3 s3=>?_⟩
   rw [FI xC];have IV:Same G G3:=s2.trans s3;have Qm:SameB aB H1 G3:=sG.trans (.of IV);have Vf:=tG.same IV;have To:G3 pt = some (.lst ((es.map (·.1)).map V.str)):=kb Qm Fb h1 nl;have Wt:=kb Qm Fb Jw nl;lcg_off;refine C7 (SqL.of To) ?_;lcg_off;rename_i pe G4 n4 s4 h4;have Nh:SameB aB H1 G4:=Qm.trans (.of s4);have MG:=Vf.same s4;refine KC es (s4 _ _ Wt) (aI cC ((Tups.of s1).trans (cY Nh Fb))) h4 ?_
   cases he:es with
   | nil =>
    lcg_off;unfold B8;exact ⟨_,rfl,Nh,MG⟩
   | cons e0 er =>
    rw [<- he];lcg_off;refine rO (by rw [he];simp) ?_
    rcases LR with Wk | ⟨xr,n,rfl,R,Wf⟩
    ·rw [Wk] at he;cases he
    have R4:=(R.b (.of s1) tok).b Nh Fb;have Ob:G4 sv = some (.tup [.int (fV es),.int (iB es)]):=kb Nh Fb (s1 _ _ Wf) (fun _ z=>by cases z)
    have Wb:=s4 _ _ To;have fin:∀ G5,SameB aB G4 G5->aL G5->∃ o6:Option V,[some (V.ref a),some (.ref xr),some (.ref sv),some (.ref p),some (.ref pw),some (.ref pt),some (.str z)] = [some (V.ref a),some (.ref xr),some (.ref sv),some (.ref p),some (.ref pw),some (.ref pt),o6]/\SameB aB H1 G5/\aL G5:=fun G5 s5 t5=>⟨_,rfl,Nh.trans s5,t5⟩
    lcg_off;refine C7 (SqL.of Wb) ?_;lcg_off;refine bJ (fun TB=>?_) (fun TB=>?_)
    ·obtain ⟨Xk,r4,q4,u4,v4,V2,_⟩:=id R4;lcg_off;refine ⟨xr,Xk,_,rfl,V2,rfl,?_⟩;lcg_off;refine ⟨xr,z,n,es,rfl,R4,MG,fun G5 s5 t5=>?_⟩
     have hy:tU es z = true:=by
      obtain ⟨e,TH,rfl⟩:=List.mem_map.mp TB;exact DU TH
     rw [hy];have R5:=R4.b s5 MG;lcg_off;obtain ⟨Sf,r5,q5,u5,v5,Q0,_⟩:=id R5;refine ⟨xr,Sf,_,rfl,Q0,rfl,?_⟩;lcg_off;refine ⟨xr,z,n,es,rfl,R5,t5,fun G6 s6 t6=>?_⟩;have LQ:G6 sv = some (.tup [.int (fV es),.int (iB es)]):=kb (s5.trans s6) MG Ob (fun _ z=>by cases z);lcg_off;refine tT LQ (sR es) (uz es) t6 (fun G7 s7 t7=>?_);rw [show qu (iB es) (aK z (fV es)) = tU es z from rfl];lcg_off;exact fin G7 ((s5.trans s6).trans s7) t7
    ·have R5:=R4;have s5:SameB aB G4 G4:=SameB.refl;have t5:=MG;lcg_off;obtain ⟨Sf,r5,q5,u5,v5,Q0,_⟩:=id R5;refine ⟨xr,Sf,_,rfl,Q0,rfl,?_⟩;lcg_off;refine ⟨xr,z,n,es,rfl,R5,t5,fun G6 s6 t6=>?_⟩
     have LQ:G6 sv = some (.tup [.int (fV es),.int (iB es)]):=kb (s5.trans s6) MG Ob (fun _ z=>by cases z)
     lcg_off;refine tT LQ (sR es) (uz es) t6 (fun G7 s7 t7=>?_);rw [show qu (iB es) (aK z (fV es)) = tU es z from rfl];lcg_off;exact fin G7 ((s5.trans s6).trans s7) t7
  ·obtain ⟨o6,rfl,sG,tG⟩:=h;lcg_off;exact q G ((SameB.of s1).trans sG) tG
theorem CQ {vr:V} (hA:HandAt c H a t g) (hg:GOk t g) (hm:∀ e,e ∈ flat g ↔ e ∈ es) (ri:bQ es) (hz:es.length < 1000) (xC:∀ e ∈ es,e.2.1 < 10 ^ 9) (hr:es = [] \/ ∃ x n,vr = .ref x/\IRun c H x n es/\H sv = some (.tup [.int (fV es),.int (iB es)])) (hp:H p = some (.lst xs)) (cC:Reps H (es.map au) xs) (hw:H pw = some (.lst (ws.map V.str))) (tok:aL H) (q:∀ H',SameB aB H H'->aL H'->Q (.bl true) H'):Cg c K [.ref a,vr,.ref sv,.ref p,.ref pw] H Q E:=⟨a,t,sv,p,pw,vr,g,xs,es,ws,rfl,hA,hg,hm,ri,hz,xC,hr,hp,cC,hw,tok,q⟩
end
section
def Lt (H H':Hp):Prop:=∀ b o,H b = some o->(∀ kvs,o ≠ .dK kvs)->(∀ C dx fs,o ≠ .ins C dx fs)->H' b = some o
theorem Lt.refl:Lt H H:=fun _ _ e _ _=>e
theorem Lt.trans (h:Lt H H') (h':Lt H' M8):Lt H M8:=fun b o e a c=>h' b o (h b o e a c) a c
theorem Lt.of (s:Same H H'):Lt H H':=fun b o e _ _=>s b o e
theorem Lt.put (hA:HandAt c H a t g) (k:Chg (fp a t g) H H'):Lt H H':=fun b o e n1 n2=>k b o (fun hb=>by
 rcases hA.kind hb with ⟨_,_,z⟩ | ⟨_,z⟩
 ·rw [e] at z;cases z;exact n2 _ _ _ rfl
 ·rw [e] at z;cases z;exact n1 _ rfl) e
theorem Lt.lst {H H':Hp} (h:Lt H H') {b:Addr} {xs:List V} (e:H b = some (.lst xs)):H' b = some (.lst xs):=h _ _ e (fun _ z=>by cases z) (fun _ _ _ z=>by cases z)
theorem Lt.tups (h:Lt H H'):Tups H H':=fun b xs e=>h _ _ e (fun _ z=>by cases z) (fun _ _ _ z=>by cases z)
theorem Lt.tab {P:Addr} {pos:Pos} {qual:Str} (h:Lt H H') (t:TabOk P pos qual H):TabOk P pos qual H':=by
 obtain ⟨ps,h1,h2,h3⟩:=t;exact ⟨ps,h _ _ h1 (fun _ z=>by cases z) (fun _ _ _ z=>by cases z),h2,h3.imp id fun ⟨c',a,b⟩=>⟨c',a,h _ _ b (fun _ z=>by cases z) (fun _ _ _ z=>by cases z)⟩⟩
theorem Lt.sq (h:Lt H H') (e:SqL K H a xs):SqL K H' a xs:=by
 rcases e with (e | ⟨o,e⟩) | e
 ·exact .inl (.inl (h.lst e))
 ·exact .inl (.inr ⟨o,h _ _ e (fun _ z=>by cases z) (fun _ _ _ z=>by cases z)⟩)
 ·exact .inr e
theorem SqL.sameN (h:SqL K H a xs) (s:SameN H H'):SqL K H' a xs:=by
 rcases h with (h | ⟨o,h⟩) | h
 ·exact .inl (.inl (s _ _ h (fun _ z=>by cases z)))
 ·exact .inl (.inr ⟨o,s _ _ h (fun _ z=>by cases z)⟩)
 ·exact .inr h
theorem Ef {F : Addr -> Hp -> Prop} (q : ∀ a t H', H a = none -> H t = none -> HandAt c H' a t [] -> Same H H' -> F a H') :
    ∀ x dx,H x = none->H dx = none->dx ≠ x->yX c [.ref x] (upd (upd H dx (.own x)) x (.ins c.Hand dx [])) (fun v H2=>v = .non/\F x H2) E:=by
 intro x dx hx Oz hne;refine ⟨x,dx,rfl,ak,fun t H' hA hc ht=>⟨rfl,?_⟩⟩
 have V9:t ≠ x:=fun z=>by rw [z,ak] at ht;cases ht
 have Wa:t ≠ dx:=fun z=>by rw [z,aj hne,ak] at ht;cases ht
 refine q x t H' hx (by rw [aj V9,aj Wa] at ht;exact ht) hA (fun b o e=>?_);have b1:b ≠ x:=fun z=>by rw [z,hx] at e;cases e
 have b2:b ≠ dx:=fun z=>by rw [z,Oz] at e;cases e
 exact hc b o (fun z=>b1 (List.mem_singleton.mp z)) (by rw [aj b1,aj b2];exact e)
theorem Ls (nd:(es.map cW).Nodup) (he:e ∈ es):bU e.1 e.2.1 es = some e:=rP nd (rQ e.1 e.2.1 es) ⟨he,rfl,Int.le_refl _,fun _ _ _ h=>h⟩
theorem Hq {t:Int} (he:e ∈ es) (ht:e.2.1 <= t):(bU e.1 t es).isSome = true:=by
 have h:=rQ e.1 t es
 cases hn:bU e.1 t es with
 | none=>rw [hn] at h;exact (h e he rfl ht).elim
 | some f=>rfl
theorem sh:∀ xs:List V,pF xs none (some 4) = xs.take 4
 | []=>rfl
 | [_]=>rfl
 | [_,_]=>rfl
 | [_,_,_]=>rfl
 | a :: b :: c :: d :: r=>Il (n:=4) (a :: b :: c :: d :: r) (by simp only [List.length_cons];omega)
structure LB (c:Cs) (K:W.Frag) (a pe pr ah th pw ps pb xp xb:Addr) (ns:List Int) (xe xr bs:List V) (ee es:List Ent) (ws:List Str) (ss:List Int) (g:GS) (H:Hp):Prop where
 scr:SqL K H a (ns.map V.int)
 ent:H pe = some (.lst xe)
 rent:Reps H (ee.map au) xe
 row:H pr = some (.lst xr)
 rrow:Reps H (es.map au) xr
 hand:HandAt c H ah th g
 wrd:H pw = some (.lst (ws.map V.str))
 stm:H ps = some (.lst (ss.map V.int))
 bnd:H pb = some (.lst bs)
 bnds:∀ b ∈ bs,zP H b
 part:∃ dx,H xp = some (.ins c.InHand dx [("hand",.ref ah)])
 bare:∃ dx,H xb = some (.ins c.Part dx [])
 tok:aL H
section
variable {pe pr ah th ps pb xp xb:Addr} {ns:List Int} {xe xr bs:List V} {ee:List Ent} {ss:List Int}
theorem LB.b (h:LB c K a pe pr ah th pw ps pb xp xb ns xe xr bs ee es ws ss g H) (s:SameB aB H H') (t:aL H'):LB c K a pe pr ah th pw ps pb xp xb ns xe xr bs ee es ws ss g H':=by
 have tu:=cY s h.tok;have nl:∀ {xs:List V} (ps),HO.lst xs ≠ .tbl ps:=fun _ z=>by cases z
 obtain ⟨qs,hT⟩:=h.tok.tbl;obtain ⟨d1,h1⟩:=h.part;obtain ⟨d2,h2⟩:=h.bare;exact ⟨SqL.sameN h.scr (s.toN hT),kb s h.tok h.ent nl,aI h.rent tu,kb s h.tok h.row nl,aI h.rrow tu,Ek h.hand s h.tok,kb s h.tok h.wrd nl,kb s h.tok h.stm nl,kb s h.tok h.bnd nl,fun b hb=>by
  obtain ⟨x,lo,hi,e,z⟩:=h.bnds b hb;exact ⟨x,lo,hi,e,tu _ _ z⟩,⟨d1,kb s h.tok h1 (fun _ z=>by cases z)⟩,⟨d2,kb s h.tok h2 (fun _ z=>by cases z)⟩,t⟩
theorem LB.same (h:LB c K a pe pr ah th pw ps pb xp xb ns xe xr bs ee es ws ss g H) (s:Same H H'):LB c K a pe pr ah th pw ps pb xp xb ns xe xr bs ee es ws ss g H':=h.b (.of s) (h.tok.same s)
theorem LB.told (h:LB c K a pe pr ah th pw ps pb xp xb ns xe xr bs ee es ws ss g H) {zs:List V} (W:PartAt c H v fs) (ri:bQ fs) (hz:fs.length < 1000) (hp:H p = some (.lst zs)) (hr:Reps H (fs.map au) zs) (q:∀ H',SameB aB H H'->LB c K a pe pr ah th pw ps pb xp xb ns xe xr bs ee es ws ss g H'->Q (.bl true) H'):xR c [v,.ref p,.ref pw,.ref ps,.ref pb] H Q E:=BP W ri hz hp hr h.wrd h.stm h.bnd h.bnds h.tok fun H' s t=>q H' s (h.b s t)
end
theorem AX {F : Addr -> Hp -> Prop} {u : V} (q : ∀ x dx H', H x = none -> Same H H' -> H' x = some (.ins c.InRun dx [("number", v), ("run", u)]) -> F x H') :
    ∀ x dx,H x = none->H dx = none->dx ≠ x->Ck c [.ref x,v,u] (upd (upd H dx (.own x)) x (.ins c.InRun dx [])) (fun v H2=>v = .non/\F x H2) E:=by
 intro x dx hx Oz hne;exact ⟨x,dx,v,u,rfl,ak,rfl,q x dx _ hx (bC (bC (bC (aE Oz) hx) hx) hx) ak⟩
theorem FQ (es:List Ent) (h:H p = some (.lst xs)) (h2:Reps H (es.map au) xs) (h':H p' = some (.lst [])) (q:Q (.bl (!es.isEmpty)) H):ql (.ref p) (.ref p') H Q:=by
 have:=nK (es:=es);refine ⟨jB es,.lst [],kr h h2,Rep.mkL h' Reps.nil',by omega,by simp [D.dep,D.deps],?_⟩;have e:av (jB es) (.lst []) = es.isEmpty:=by cases es <;> simp [jB,av,cX]
 rw [e];exact q
theorem ox (n:Int):(Txt.mul (Str.ofString "0") n).cps.toList = List.replicate n.toNat 48:=by
 rw [show Str.ofString "0" = ⟨#[48]⟩ by decide +kernel];exact PyProof.Rows.mul_one_list 48 n
theorem Ex (h:n <= 9999999):(Str.ofString "run" ++ Txt.mul (Str.ofString "0") (7 - ((jU n).length:Int))) ++ jU n = Str.ofString "run" ++ vF n 7:=by
 have e:=tR (n:=n) (k:=7) (by omega) (by decide);have hl:=zi h;apply kj;rw [app_list,app_list,app_list,ox];show _ = _ ++ jC n 7;rw [e,List.append_assoc];show _ ++ (List.replicate _ 48 ++ (jU n).cps.toList) = _ ++ (List.replicate (7 - (jU n).length) 48 ++ (jU n).cps.toList);rw [show (7 - ((jU n).length:Int)).toNat = 7 - (jU n).length by omega]
def yW (K:W.Frag):Sp:=fun vs H Q _=>∃ (a:Addr) (ns:List Int),vs = [.ref a]/\SqL K H a (ns.map V.int)/\ns.length <= 63/\O6 H/\aL H/\∀ H',Q (.bl true) H'
theorem bT:ao ["_law_script","_law_entries_here","_law_row","_law_hand","_law_entry","_law_words","_law_stamps_here","_law_bounds","_law_part","_law_bare","_law_number","_law_run","_law_sieve","_law_made","_law_due"] ["_law_script"] (ab nX):=dE
theorem Ln (T:Txt K mg) (kc:∀ p ∈ tabs,base.BuiltinsAt mg p) (kIn:K.In base) (N:Fn K mg "law" nX ["_law_script"] f fd):FnOk P w K mg base bR (9) f fd ["_law_script"] (yW K):=by
 obtain ⟨c,Z⟩:=T.cl;obtain ⟨_,_,xy,⟨_,qy,qD⟩⟩:=Z.i_Hand_init;have xm:=tP (P:=P) (w:=w) (base:=base) T Z xy;obtain ⟨_,_,gp,⟨_,dG,dI⟩⟩:=Z.i_InHand_init;have gm:=iI (P:=P) (w:=w) (base:=base) T Z gp;obtain ⟨_,_,yO,⟨_,kI,kK⟩⟩:=Z.i_Hand_put;have pW:=vJ (P:=P) (w:=w) (base:=base) T Z yO;obtain ⟨_,_,i0,⟨_,fY,f'⟩⟩:=Z.i_Part_says;have iY:=kD (P:=P) (w:=w) (base:=base) T Z i0;obtain ⟨_,_,uO,⟨_,oG,oM⟩⟩:=Z.i_InRun_init;have uM:=qr (P:=P) (w:=w) (base:=base) T Z uO;obtain ⟨_,_,cx,⟨_,bM,bO⟩⟩:=Z.i_InHand_says;have cv:=eM (P:=P) (w:=w) (base:=base) T Z cx;obtain ⟨_,_,dN,⟨_,cP,cS⟩⟩:=Z.i_InHand_called;have dM:=gC (P:=P) (w:=w) (base:=base) T Z dN;obtain ⟨_,_,gn,⟨_,dF,dH⟩⟩:=Z.i_Part_called;have gj:=iH (P:=P) (w:=w) (base:=base) T Z gn;obtain ⟨_,_,cy,⟨_,bN,bP⟩⟩:=Z.i_InHand_find;have cw:=eN (P:=P) (w:=w) (base:=base) T Z cy;obtain ⟨_,_,fe,⟨_,cZ,c7⟩⟩:=Z.i_InRun_called;have fb:=iu (P:=P) (w:=w) (base:=base) T Z fe;obtain ⟨_,_,iT⟩:=T.f__law_entries;have pU:=mR (P:=P) (w:=w) (base:=base) T iT;obtain ⟨_,_,_,iS,lM,lN⟩:=T.c__law_ordered;have pT:=mQ (P:=P) (w:=w) (base:=base) T kc iS lM lN kIn;obtain ⟨_,_,bj⟩:=T.f__law_cell_at;have bD:=mS (P:=P) (w:=w) (base:=base) T bj;obtain ⟨_,_,mF⟩:=T.f__law_many;have xj:=tM (P:=P) (w:=w) (base:=base) T mF;obtain ⟨_,_,jO⟩:=T.f__law_stamps;have qT:=oo (P:=P) (w:=w) (base:=base) T jO;obtain ⟨_,_,w5⟩:=T.f_run_of;have E7:=AE (P:=P) (w:=w) (base:=base) T kc kIn w5;obtain ⟨_,_,mE⟩:=T.f__law_says;have xi:=tL (P:=P) (w:=w) (base:=base) T kc kIn Z mE;obtain ⟨_,_,dz⟩:=T.f__law_keys;have iX:=kC (P:=P) (w:=w) (base:=base) T dz;obtain ⟨_,_,aU⟩:=T.f__law_sign;have bF:=hV (P:=P) (w:=w) (base:=base) T aU;obtain ⟨_,_,fP⟩:=T.f__law_told;have iW:=tK (P:=P) (w:=w) (base:=base) T kc kIn Z fP;refine N.fu.okB bT (fun vs H Q E h=>?_) (fun aT A outer s H vs Q E hr h=>?_)
 ·obtain ⟨a,ns,rfl,_⟩:=h
  rfl
 ·obtain ⟨a,ns,rfl,hS,hn,ht,tk,kk⟩:=h;refine ⟨_,(ag (aw (i:=1) bT.nd rfl (.inl rfl) (dB iT pU hr.m (af (dB bj bD hr.m (af (bv 0) (af b_int ae rfl) rfl)) (af (dB mF xj hr.m (af (dB bj bD hr.m (af (bv 0) (af b_int ae rfl) rfl)) ae rfl)) ae rfl) rfl)))
  (ag (aw (i:=2) bT.nd rfl (.inl rfl) (dB iS pT hr.m (af (bv 1) ae rfl)))
  (ag (aw (i:=3) bT.nd rfl (.inl rfl) (O2 Z.mk_Hand xm aR qD qy hr.m Z.m_Hand))
  (ag (cF PassesOwn.never rfl (bo (bv 1)) (bA (i:=4) bT.nd rfl (.inl rfl))
   (ai (jv (pJ Z.c_Hand Z.me_Hand_put pW aR kK kI hr.m (bv 3) (af (bp aC (bv 4) b_int (fun _ _=>rfl)) (af (bp aC (bv 4) b_int (fun _ _=>rfl)) (af (bp aC (bv 4) b_int (fun _ _=>rfl)) ae rfl) rfl) rfl)))))
  (ag (aw (i:=5) bT.nd rfl (.inl rfl) (ax bE (jy ro (wY (x:="_law_entry") (ix:=[]) (fv:=[]) (osc:=ab nX) rfl ⟨rfl,by decide +kernel,by decide +kernel,by rfl,by decide +kernel,by decide +kernel,by decide +kernel⟩ (by rfl) (bo (bv 2)) (fun _ _ _ _=>hZ) (fun _ _ _ _=>(bp (eh (K:=K) rfl) (bv 0) b_int (fun _ _=>rfl)))) jx (jw b_int)) (jy ro (dB dz iX hr.m (af (ax aJ (dB bj bD hr.m (af (bv 0) (af b_int ae rfl) rfl)) b_int) (af b_int ae rfl) rfl)) jx (jw b_int))))
  (ag (aw (i:=5) bT.nd rfl (.inl rfl) (ax bE (bv 5) (fO (af (dB aU bF hr.m (af (dB bj bD hr.m (af (bv 0) (af b_int ae rfl) rfl)) ae rfl)) ae rfl))))
  (ag (aw (i:=6) bT.nd rfl (.inl rfl) (ax bE (fO (af (ax lD (ax ym b_int b_int) b_int) (af b_int ae rfl) rfl)) (dB jO qT hr.m (af (bv 1) (af (dB bj bD hr.m (af (bv 0) (af b_int ae rfl) rfl)) ae rfl) rfl))))
  (ag (aw (i:=7) bT.nd rfl (.inl rfl) (fO (af (eV (af b_str (af fN ae rfl) rfl)) (af (eV (af (bp aC (bv 5) b_int (fun _ _=>rfl)) (af fN ae rfl) rfl)) (af (eV (af b_str (af (bp aC (bv 5) (EV nN b_int) (fun _ _=>rfl)) ae rfl) rfl)) (af (eV (af (bp aC (bv 5) (EV nN b_int) (fun _ _=>rfl)) (af (bp aC (bv 5) b_int (fun _ _=>rfl)) ae rfl) rfl)) (af (eV (af (bp aC (bv 5) b_int (fun _ _=>rfl)) (af (ax bE (jy ro (bp aC (bv 5) b_int (fun _ _=>rfl)) jx (jw b_int)) b_str) ae rfl) rfl)) ae rfl) rfl) rfl) rfl) rfl)))
  (ag (aw (i:=8) bT.nd rfl (.inl rfl) (My Z.mk_InHand gm aR dI dG hr.m Z.m_InHand (af (bv 3) ae rfl)))
  (ag (aw (i:=9) bT.nd rfl (.inl rfl) (O1 Z.mo_Part Z.m_Part))
  (ag (bh (hX (gO (c8 (cT (dB fP iW hr.m (af (bv 8) (af (bv 2) (af (bv 5) (af (bv 6) (af (bv 7) ae rfl) rfl) rfl) rfl) rfl)) (fun _=>rfl))) (eU (ay (jJ (aH hr)) (yI Z.c_InHand Z.me_InHand_called dM aR cS cP hr.m (bv 8)) b_str (az _)))))
   (ai (aq jG))
   aA)
  (ag (bh (hX (gO (c8 (cT (dB fP iW hr.m (af (bv 9) (af (fO ae) (af (bv 5) (af (bv 6) (af (bv 7) ae rfl) rfl) rfl) rfl) rfl)) (fun _=>rfl))) (gO (ay (jJ (aH hr)) (yI Z.c_Part Z.me_Part_called gj aR dH dF hr.m (bv 9)) b_str (az _)) (eU (cT (pJ Z.c_Part Z.me_Part_says iY aR f' fY hr.m (bv 9) (af (bp aC (bv 5) b_int (fun _ _=>rfl)) ae rfl)) (fun _=>rfl))))))
   (ai (aq jG))
   aA)
  (ag (aw (i:=10) bT.nd rfl (.inl rfl) (ax bE b_int (ax aP (dB bj bD hr.m (af (bv 0) (af b_int ae rfl) rfl)) b_int)))
  (ag (aw (i:=11) bT.nd rfl (.inl rfl) (bv 9))
  (ag (aw (i:=12) bT.nd rfl (.inl rfl) (eV (af b_int (af b_int ae rfl) rfl)))
  (ag (bh (ay (jJ (aH hr)) (bv 2) (fO ae) (az _))
   (ag (aw (i:=13) bT.nd rfl (.inl rfl) (dB w5 E7 hr.m (af (IA Mq T.b_list (by kernel_rfl) (af (bv 1) ae rfl)) ae rfl)))
  (ag (aw (i:=12) bT.nd rfl (.inl rfl) (bp aC (bv 13) b_int (fun _ _=>rfl)))
  (ag (aw (i:=11) bT.nd rfl (.inl rfl) (My Z.mk_InRun uM aR oM oG hr.m Z.m_InRun (af (bv 10) (af (bv 13) ae rfl) rfl)))
  (ag (aw (i:=14) bT.nd rfl (.inl rfl) (ax bE (ax bE b_str (ax rG b_str (ax lD b_int (mD kQ T.b_len (by kernel_rfl) (af (IA EK T.b_str (by kernel_rfl) (af (bv 10) ae rfl)) ae rfl))))) (IA EK T.b_str (by kernel_rfl) (af (bv 10) ae rfl))))
  (ai (bh (hX (gO (c8 (cT (dB fP iW hr.m (af (bv 11) (af (bv 2) (af (bv 5) (af (bv 6) (af (bv 7) ae rfl) rfl) rfl) rfl) rfl)) (fun _=>rfl))) (eU (ay (jJ (aH hr)) (yI Z.c_InRun Z.me_InRun_called fb aR c7 cZ hr.m (bv 11)) (bv 14) (az _)))))
   (ai (aq jG))
   aA))))))
   aA)
  (ag (bh (c8 (cT (dB mE xi hr.m (af (bv 3) (af (bv 11) (af (bv 12) (af (bv 2) (af (bv 5) ae rfl) rfl) rfl) rfl) rfl)) (fun _=>rfl)))
   (ai (aq jG))
   aA)
  (ag (jv (pJ Z.c_Hand Z.me_Hand_put pW aR kK kI hr.m (bv 3) (af b_str (af b_int (af b_str ae rfl) rfl) rfl)))
  (ai (aq (EZ (zL (fI (aH hr)) (pJ Z.c_InHand Z.me_InHand_find cw aR bP bN hr.m (bv 8) (af b_str (af b_int ae rfl) rfl)) (eV (af b_str (af b_int (af b_str ae rfl) rfl) rfl)) (az _)) (EW (pJ Z.c_InHand Z.me_InHand_says cv aR bO bM hr.m (bv 8) (af b_str ae rfl)))))))))))))))))))))))),?_⟩
  kas_types;have nl:∀ {xs:List V} (ps),HO.lst xs ≠ .tbl ps:=fun _ z=>by cases z
  lcg_off;refine gN (k:=1) hS rfl ?_;lcg_off;refine gN (k:=0) hS rfl ?_;lcg_off;refine DV (fun m m0 m1=>?_);lcg_off;refine wA m0 m1 (fun pe H1 xe ee ne1 s1 RB Rb nd hlen xC hok=>?_);lcg_off;refine GW ee RB Rb nd (by omega) (ht.same s1) (fun xr es pr H2 pm ri s2 t2 Jt Ts=>?_);have Pl:aL H2:=(tk.same s1).sameB s2 (by decide) (ht.same s1).tbl;obtain ⟨qs,hT⟩:=(ht.same s1).tbl;have Po:=s2.toN hT;have RA:=Po _ _ RB nl;have HW:=Reps.sameN Po Rb;have TR:=SqL.sameN (hS.same s1) Po;clear s1 s2 Po hT RB Rb ht tk hS t2;lcg_off;refine Ef (fun ah th H3 na nt TY s3=>?_);lcg_off;obtain ⟨L,l1,l2,l3⟩:=aX (HW.same s3);have V0:xe.length = ee.length:=iD HW;refine forL (xs:=xe) (fun i σ G=>∃ (g:GS) (o4:Option V),σ = [some (.ref a),some (.ref pe),some (.ref pr),some (.ref ah),o4,none,none,none,none,none,none,none,none,none,none]/\HandAt c G ah th g/\GOk th g/\(∀ e,e ∈ flat g ↔ e ∈ ee.take i)/\Lt H3 G) ⟨[],none,rfl,TY,⟨List.Pairwise.nil,by simp,fun q hq=>by (cases hq)⟩,fun e=>by rw [List.take_zero];exact Iff.rfl,Lt.refl⟩ (fun i σ G h=>by obtain ⟨_,_,rfl,_,_,_,h⟩:=h;exact SqL.of (h.lst (s3 _ _ RA))) (fun i x σ G hi hx h=>?_) (fun σ G h=>?_)
  ·obtain ⟨g,o4,rfl,hA,hg,hm,lt⟩:=h;rw [<- l2,List.getElem?_map] at hx;obtain ⟨te,ud,rfl⟩:=Option.map_eq_some_iff.mp hx;have A8:ee[i]? = some te.1:=by rw [<- l1,List.getElem?_map,ud];rfl
   obtain ⟨kJ,xD⟩:=List.getElem?_eq_some_iff.mp A8;obtain ⟨cc,xx,ec,oK,QZ⟩:=cq (Et (l3 te (List.mem_of_getElem? ud)) lt.tups);have VF:((ee.take i).map cW).Nodup:=nd.sublist ((List.take_sublist _ _).map cW);have Vu:=jr hg VF hm;rw [ec];lcg_off;refine ku hA rfl ?_;lcg_off;refine wj hA hg QZ (by rw [Vu.length_eq,List.length_take];omega) (fun G' g' PZ Fl Sm _ PQ=>?_)
   lcg_off;refine ⟨g',_,rfl,PZ,Fl,fun e=>?_,lt.trans (Lt.put hA Sm)⟩;rw [PQ,hm,List.take_succ_eq_append_getElem kJ,xD,List.mem_append,List.mem_singleton];have n1:((ee.take (i + 1)).map cW).Nodup:=nd.sublist ((List.take_sublist _ _).map cW);rw [List.take_succ_eq_append_getElem kJ,xD,List.map_append] at n1;obtain ⟨_,_,n2⟩:=List.nodup_append.mp n1
   constructor
   ·rintro (h1 | h1)
    ·exact .inr h1
    ·exact .inl h1.1
   ·rintro (h1 | h1)
    ·exact .inr ⟨h1,fun z=>n2 _ (List.mem_map.mpr ⟨e,h1,rfl⟩) _ (List.mem_singleton.mpr rfl) z⟩
    ·exact .inl h1
  ·obtain ⟨g,o4,rfl,hA,hg,Oo,lt⟩:=h;rw [V0,List.take_length] at Oo;have hm:∀ e,e ∈ flat g ↔ e ∈ es:=fun e=>(Oo e).trans pm.mem_iff.symm
   have Lw:Lt H2 G:=(Lt.of s3).trans lt;have Sx:aL G:=Lw.tab Pl;have OG:=Lw.sq TR;have Rz:=Lw.lst RA;have LS:=aI HW Lw.tups;have Rc:=Lw.lst Jt;have HV:=aI Ts Lw.tups;have Oy:es.length < 1000:=by rw [pm.length_eq];omega
   have Rj:∀ e ∈ es,Ff e.1:=fun e h=>hok e (pm.mem_iff.mp h)
   have Q5:∀ e ∈ es,e.2.1 < 10 ^ 9:=fun e h=>xC e (pm.mem_iff.mp h)
   clear lt Lw TY s3 na nt RA HW Jt Ts TR Pl l3 l2 l1 Oo;obtain ⟨L,l1,l2,l3⟩:=aX HV;have xB:xr.length = es.length:=iD HV;lcg_off;refine AN (xs:=xr) (fun i ys F=>F = G/\i <= es.length/\ys = ((es.take i).map (·.1)).map V.str) (by rw [xB,sizeLine_eq];omega) ⟨rfl,Nat.zero_le _,rfl⟩ (fun i ys F h=>by obtain ⟨rfl,h1,rfl⟩:=h;exact ⟨SqL.of Rc,by rw [List.length_map,List.length_map,List.length_take];omega⟩) (fun i v ys F hv h=>?_) (fun ys p1 F G1 h n1 s1 h1=>?_)
   ·obtain ⟨rfl,k1,rfl⟩:=h;rw [<- l2,List.getElem?_map] at hv;obtain ⟨te,ud,rfl⟩:=Option.map_eq_some_iff.mp hv;have A8:es[i]? = some te.1:=by rw [<- l1,List.getElem?_map,ud];rfl
    obtain ⟨kJ,xD⟩:=List.getElem?_eq_some_iff.mp A8;obtain ⟨cc,xx,ec,oK,QZ⟩:=cq (l3 te (List.mem_of_getElem? ud));rw [ec];lcg_off;refine ⟨rfl,kJ,?_⟩;rw [List.take_succ_eq_append_getElem kJ,xD,List.map_append,List.map_append]
    rfl
   obtain ⟨rfl,_,rfl⟩:=h;rw [xB,List.take_length] at h1;clear l3 l2 l1;lcg_off;refine C3 (SqL.of h1) (fun p2 G2 n2 s2 h2=>?_)
   rw [sh,<- List.map_take] at h2;have MJ:Same F G2:=s1.trans s2;lcg_off;refine gN (k:=1) (OG.same MJ) rfl ?_;lcg_off;refine v7 (by decide) (by decide) (fun p3 G3 ks n3 s3 h3 k1 k2 k3=>?_);lcg_off;refine C3 (SqL.of h3) (fun p4 G4 n4 s4 h4=>?_);rw [sh,<- List.map_take] at h4;have Ra:Same G2 G4:=s3.trans s4;refine nG (Ra _ _ h2) h4 (by rw [List.length_map,List.length_map,List.length_take,List.length_take,sizeLine_eq];omega) (fun p5 G5 n5 s5 h5=>?_);rw [<- List.map_append] at h5;obtain ⟨w0,wr,Jr⟩:∃ w0 wr,(es.map (·.1)).take 4 ++ ks.take 4 = w0 :: wr:=by
    cases h:(es.map (·.1)).take 4 ++ ks.take 4 with
    | nil =>
     have:=congrArg List.length h;rw [List.length_append,List.length_take,List.length_take,List.length_nil] at this;omega
    | cons x r=>exact ⟨x,r,rfl⟩
   have V4:w0.length <= 20:=by
    have Oo:w0 ∈ (es.map (·.1)).take 4 ++ ks.take 4:=by rw [Jr];exact List.mem_cons_self
    rcases List.mem_append.mp Oo with h | h
    ·obtain ⟨e,he,rfl⟩:=List.mem_map.mp (List.mem_of_mem_take h);exact (Rj e he).2
    ·exact (k3 _ (List.mem_of_mem_take h)).2
   have V3:(w0 :: wr).length <= 8:=by
    rw [<- Jr,List.length_append,List.length_take,List.length_take];omega
   rw [Jr] at h5;have Qo:Same F G5:=(MJ.trans Ra).trans s5;clear h2 h4 h3 h1 n1 n2 n3 n4 n5 s1 s2 s3 s4 s5 MJ Ra Jr k1 k2 k3;lcg_off;refine gN (k:=2) (OG.same Qo) rfl ?_;lcg_off;refine gz fun ch=>?_
   lcg_off;rename_i q6 Q6 m6 u6 g6;refine nG (u6 _ _ h5) g6 (by rw [List.length_map,sizeLine_eq];simp only [List.length_cons,List.length_nil] at V3 ⊢;omega) (fun p6 G6 n6 s6 h6=>?_);generalize Tq:(⟨#[ch]⟩:Str) = sg at h6;have Q8:sg.length = 1:=by rw [<- Tq];rfl
   have T1:G6 p6 = some (.lst (((w0 :: wr) ++ [sg]).map V.str)):=by rw [h6,List.map_append];rfl
   have Ni:Same F G6:=(Qo.trans u6).trans s6;clear h5 g6 m6 n6 u6 s6 Qo h6 Tq;lcg_off;rename_i q7 Q7 m7 u7 g7;refine gN (k:=2) (OG.same (Ni.trans u7)) rfl ?_;lcg_off;refine xQ ee ((Ni.trans u7) _ _ Rz) (LS.same (Ni.trans u7)) (by omega) (fun p7 G7 ss n7 s7 h7 _ _ Z3=>?_)
   refine nG (s7 _ _ g7) h7 (by rw [List.length_map,sizeLine_eq];simp only [List.length_cons,List.length_nil];omega) (fun p8 G8 n8 s8 h8=>?_);have TZ:G8 p8 = some (.lst ((((10:Int) ^ 9 - 1) :: 0 :: ss).map V.int)):=h8;have Qn:Same G6 G8:=(u7.trans s7).trans s8;have SJ:Same F G8:=Ni.trans Qn;have Js:=Qn _ _ T1;clear h8 g7 h7 m7 n7 n8 u7 s7 s8 Ni Qn T1;have LK:uC (((w0 :: wr) ++ [sg]).map V.str) 0 = some (.str w0):=by
    show uC _ ((0:Nat):Int) = _;exact kT rfl
   have QS:uC (((w0 :: wr) ++ [sg]).map V.str) (-1) = some (.str sg):=by rw [List.map_append];exact E1 _ _
   lcg_off;rename_i b1 B1 c1 g1;refine fW (SqL.of (c1 _ _ Js)) LK ?_;lcg_off;rename_i b2 B2 c2 g2;refine fW (SqL.of (c2 _ _ (c1 _ _ Js))) QS ?_;lcg_off;rename_i b3 B3 c3 g3;have M7:Same G8 B3:=(c1.trans c2).trans c3;refine fW (SqL.of (M7 _ _ Js)) QS ?_;lcg_off;refine fW (SqL.of (M7 _ _ Js)) LK ?_;lcg_off;rename_i b4 B4 c4 g4;refine fW (SqL.of (c4 _ _ (M7 _ _ Js))) LK ?_;lcg_off;refine fW (SqL.of (c4 _ _ (M7 _ _ Js))) LK ?_;lcg_off;refine C2 (by rw [sizeLine_eq];omega) ?_;lcg_off;refine jm ?_ ?_
   ·have:=Txt.slice_le w0 none (some 19);rw [sizeLine_eq,show (Str.ofString "~").length = 1 from rfl];omega
   generalize Txt.slice w0 none (some 19) ++ Str.ofString "~" = wt;lcg_off;rename_i b5 B5 c5 g5 pb GB nb c6 TN;have OX:Same B3 GB:=(c4.trans c5).trans c6;have Pn:Same G8 GB:=M7.trans OX;have M0:∀ b ∈ [V.ref b1,.ref b2,.ref b3,.ref b4,.ref b5],zP GB b:=fun b hb=>by
    simp only [List.mem_cons,List.not_mem_nil,or_false] at hb
    rcases hb with rfl | rfl | rfl | rfl | rfl
    ·exact ⟨b1,_,none,rfl,((c2.trans c3).trans OX) _ _ g1⟩
    ·exact ⟨b2,_,none,rfl,(c3.trans OX) _ _ g2⟩
    ·exact ⟨b3,_,some sg,rfl,OX _ _ g3⟩
    ·exact ⟨b4,_,some w0,rfl,(c5.trans c6) _ _ g4⟩
    ·exact ⟨b5,_,some wt,rfl,c6 _ _ g5⟩
   have sB:Same F GB:=SJ.trans Pn;refine oF (fun xp Xj G1 n1 s1 Th=>?_)
   lcg_off;intro xb JD SX S8 hne;have s2:Same G1 (upd (upd G1 JD (.own xb)) xb (.ins c.Part JD [])):=bC (aE S8) SX;have JA:upd (upd G1 JD (.own xb)) xb (.ins c.Part JD []) xb = some (.ins c.Part JD []):=ak;generalize upd (upd G1 JD (.own xb)) xb (.ins c.Part JD []) = G2 at *;have FL:Same GB G2:=s1.trans s2;have IW:Same F G2:=sB.trans FL;have L2:LB c K a pe pr ah th p6 p8 pb xp xb ns xe xr [V.ref b1,.ref b2,.ref b3,.ref b4,.ref b5] ee es ((w0 :: wr) ++ [sg]) (((10:Int) ^ 9 - 1) :: 0 :: ss) g G2:=by
    refine ⟨OG.same IW,IW _ _ Rz,LS.same IW,IW _ _ Rc,HV.same IW,hA.same IW,FL _ _ (Pn _ _ Js),FL _ _ (Pn _ _ TZ),FL _ _ TN,fun b hb=>?_,⟨Xj,s2 _ _ Th⟩,⟨JD,JA⟩,Sx.same IW⟩
    obtain ⟨x,lo,hi,e,z⟩:=M0 b hb;exact ⟨x,lo,hi,e,FL _ _ z⟩
   generalize [V.ref b1,.ref b2,.ref b3,.ref b4,.ref b5] = bs at L2;generalize Q2:(w0 :: wr) ++ [sg] = ws at L2;generalize ((10:Int) ^ 9 - 1) :: 0 :: ss = st at L2;clear M0 g1 g2 g3 g4 g5 c1 c2 c3 c4 c5 c6 M7 OX Pn SJ Js TZ nb OG Rz LS Rc HV Sx hA LK QS TN Th JA s1 s2 sB FL IW SX S8 hne n1;lcg_off;have Qs:=L2.row;refine L2.told (fs:=es) (.inl ⟨xp,rfl,?_⟩) ri Oy Qs L2.rrow (fun G3 s3 L3=>?_)
   ·obtain ⟨d,h⟩:=L2.part;exact ⟨d,ah,th,g,h,L2.hand,hg,hm⟩
   lcg_off;obtain ⟨d3,e3⟩:=L3.part;refine ⟨xp,d3,_,rfl,e3,rfl,?_⟩;lcg_off;refine ⟨_,rfl,?_⟩;lcg_off;refine rO (by simp) ?_;lcg_off;rename_i pz G4 n4 s4 h4;have L4:=L3.same s4;obtain ⟨d4,e4⟩:=L4.bare;refine L4.told (fs:=[]) (.inr (.inl ⟨xb,d4,rfl,e4,rfl⟩)) List.Pairwise.nil (by simp) h4 Reps.nil' (fun G5 s5 L5=>?_);lcg_off;obtain ⟨d5,e5⟩:=L5.bare;refine ⟨xb,d5,_,rfl,e5,rfl,?_⟩;lcg_off;refine ⟨_,rfl,?_⟩;lcg_off;refine rO (by simp) ?_;lcg_off;refine ⟨xb,d5,_,rfl,e5,rfl,?_⟩;lcg_off;have LK:uC (ws.map V.str) 0 = some (.str w0):=by
    rw [<- Q2];show uC _ ((0:Nat):Int) = _;exact kT rfl
   refine fW (SqL.of L5.wrd) LK ?_;lcg_off;refine ⟨_,_,rfl,?_⟩;lcg_off;refine gN (k:=3) L5.scr rfl ?_;obtain ⟨n,PN,MU⟩:∃ n:Nat,1 + ns.getD 3 0 % 9999999 = (n:Int)/\n <= 9999999:=⟨(1 + ns.getD 3 0 % 9999999).toNat,by omega,by omega⟩
   lcg_off;rw [PN];rename_i YY G6 s6 h6 YX G7 n7 s7 h7;have L7:=(L5.same s6).same s7;have We:=s7 _ _ h6;refine FQ es L7.row L7.rrow h7 ?_;lcg_off;refine oC (fun σ' G'=>∃ (vr:V) (sv:Addr) (SV SU:Option V),σ' = [some (.ref a),some (.ref pe),some (.ref pr),some (.ref ah),o4,some (.ref p6),some (.ref p8),some (.ref pb),some (.ref xp),some (.ref xb),some (.int (n:Int)),some vr,some (.ref sv),SV,SU]/\LB c K a pe pr ah th p6 p8 pb xp xb ns xe xr bs ee es ws st g G'/\(es = [] \/ ∃ x n,vr = .ref x/\IRun c G' x n es/\G' sv = some (.tup [.int (fV es),.int (iB es)]))) (fun σ' G8 h=>?_) (fun hy nx hx=>?_) (fun hy nx hx=>?_)
   rotate_left
   ·have Xf:=L7.ent;lcg_off;rename_i pl G8 n8 s8 h8;have L8:=L7.same s8;refine Al ee h8 L8.rent nd (by omega) L8.tok (fun r t pu xs' dA G9 Px Vs s9 t9 Wj Oc Rf Oe=>?_)
    obtain rfl:=rp (Px.trans pm.symm) Vs ri;have L9:=L8.b s9 t9;lcg_off;refine AX (fun x dx Yx VC MK Q1=>?_)
    have UC:IRun c Yx x n dA:=⟨dx,r,t,pu,xs',Q1,MK _ _ Wj,MK _ _ Oc,MK _ _ Rf,Oe.same MK⟩;have Pb:=L9.same MK;lcg_off;have VY:=zi MU;have ZY:(jU n).length <= sizeLine:=by rw [sizeLine_eq];omega
    refine yc (lF _ (by omega)) ?_;rw [show Str.ofString (toString (n:Int)) = jU n from rfl];lcg_off;refine FR (vP (by decide +kernel) (by omega) (by omega)) ?_;have hml:(Txt.mul (Str.ofString "0") (7 - ((jU n).length:Int))).length <= 7:=by rw [len_list,ox,List.length_replicate];omega
    lcg_off;refine jm (by rw [sizeLine_eq,show (Str.ofString "run").length = 3 by decide +kernel];omega) ?_;lcg_off;refine yc (lF _ (by omega)) ?_;rw [show Str.ofString (toString (n:Int)) = jU n from rfl];lcg_off;refine jm ?_ ?_
    ·rw [la,sizeLine_eq,show (Str.ofString "run").length = 3 by decide +kernel];omega
    rw [Ex MU];have Nk:=Pb.row;lcg_off;refine Pb.told (fs:=dA) (.inr (.inr ⟨x,n,rfl,UC,MU⟩)) ri Oy Nk Pb.rrow (fun G11 SI Yv=>?_);have Sr:=UC.b SI Pb.tok;obtain ⟨Si,YV,YW,YO,v11,Xi,_⟩:=id Sr;lcg_off;refine ⟨x,Si,_,rfl,Xi,rfl,?_⟩;lcg_off;refine ⟨x,n,dA,rfl,Sr,MU,?_⟩;lcg_off;refine rO (by simp) ?_;lcg_off;exact hx _ _ ⟨_,_,_,_,rfl,Yv,.inr ⟨x,n,rfl,Sr,kb SI Pb.tok (MK _ _ Oc) (fun _ z=>by cases z)⟩⟩
   ·have he:es = []:=by cases es with | nil=>rfl | cons x r=>simp at hy
    lcg_off;exact hx _ _ ⟨_,_,_,_,rfl,L7,.inl he⟩
   obtain ⟨vr,sv,SV,SU,rfl,L8,LR⟩:=h;have Qr:=L8.row;lcg_off;refine CQ L8.hand hg hm ri Oy Q5 LR Qr L8.rrow L8.wrd L8.tok (fun G9 s9 t9=>?_)
   have L9:=L8.b s9 t9;lcg_off;refine ku L9.hand rfl ?_;lcg_off;have SN:=jr hg (gB ri) hm;refine wj (e:=(Str.ofString "q",7,some (Str.ofString "w"))) L9.hand hg Rep.str' (by rw [SN.length_eq];exact Oy) (fun GA g' PZ Fl Sm _ PQ=>?_)
   obtain ⟨d9,e9⟩:=L9.part;have LP:GA xp = some (.ins c.InHand d9 [("hand",.ref ah)]):=by
    refine Sm _ _ (fun z=>?_) e9
    rcases List.mem_cons.mp z with z | z
    ·obtain ⟨d,h⟩:=L9.hand.ins;rw [z,h] at e9;simp at e9;exact absurd e9.2.2.1 (by decide +kernel)
    ·rcases List.mem_cons.mp z with z | z
     ·rw [z,L9.hand.tab] at e9;cases e9
     ·obtain ⟨q,hq,rfl⟩:=List.mem_map.mp z;obtain ⟨kvs,h1,_⟩:=L9.hand.own q hq;rw [h1] at e9;cases e9
   have WA:IHand c GA xp (flat g'):=⟨d9,ah,th,g',LP,PZ,Fl,fun e=>Iff.rfl⟩
   have hq:((Str.ofString "q",7,some (Str.ofString "w")):Ent) ∈ flat g':=(PQ _).mpr (.inl rfl);have Tz:(flat g').length < 1000:=by
    have Vv:(flat g').Perm ((Str.ofString "q",7,some (Str.ofString "w")) :: (flat g).filter (fun x=>decide (cW x ≠ cW (Str.ofString "q",7,some (Str.ofString "w"))))):=(List.perm_ext_iff_of_nodup (bx Fl.nd) (List.nodup_cons.mpr ⟨fun h=>by simpa using (List.mem_filter.mp h).2,(bx hg.nd).sublist List.filter_sublist⟩)).mpr (fun x=>by rw [PQ,List.mem_cons,List.mem_filter];simp)
    rw [Vv.length_eq,List.length_cons];have:=List.length_filter_le (fun x=>decide (cW x ≠ cW (Str.ofString "q",7,some (Str.ofString "w")))) (flat g)
    have:=SN.length_eq;have:=pm.length_eq;omega
   lcg_off;refine ⟨xp,d9,_,rfl,LP,rfl,?_⟩;lcg_off;refine jX WA Fl.nd Tz (fun u GC sC hu=>?_);rw [show bU (Str.ofString "q") 7 (flat g') = some (Str.ofString "q",7,some (Str.ofString "w")) from Ls Fl.nd hq] at hu;lcg_off;rename_i pq GD sD hD;have ed:=wB (Str.ofString "q",7,some (Str.ofString "w"));refine ⟨au (Str.ofString "q",7,some (Str.ofString "w")),au (Str.ofString "q",7,some (Str.ofString "w")),Rep.same sD hu,oy hD Rep.str',by omega,by omega,?_⟩;rw [eI];refine ⟨true,rfl,?_⟩;refine D9 rfl ?_;have N9:=sD _ _ (sC _ _ LP);lcg_off;refine ⟨xp,d9,_,rfl,N9,rfl,?_⟩;lcg_off;refine ⟨xp,Str.ofString "q",flat g',rfl,⟨d9,ah,th,g',N9,(PZ.same sC).same sD,Fl,fun e=>Iff.rfl⟩,Fl.nd,Tz,fun GE sE=>?_⟩
   rw [show (bU (Str.ofString "q") 999999999 (flat g')).isSome = true from Hq hq (by decide)];exact kk _
end
theorem all_mk {l : W.OpenLaw} {h : Heap} {fa f1 f2 f3 f4 f5 f6 f7 f8 f9 Uo Um Sb R' Ul Uk Uj Ui Uh Ug Ue Ud Uc R9 Ub Ua T' T9 T8 T7 T6 R8 : Addr} (X : K.In h) (G : h.Ns mainGlobals mg) (MW : mg "law" = some (.ref fa))
    {d1 d2 d3 d4 d5 d7 d8 d9 XG Si XF XE XD XC XB XA Xz Xy Xx Xw Xv Xu Xt Xs Xr Xq Xp Xo:FuncData}
    {Vz Yb:Option Addr} {Vi:Array (Option Value)} {VA VR Xm Vw XI:Value}
    {QF So:Option Addr} {Qk:Array (Option Value)} {QH QR Sh Qx Sl:Value}
    {QE Sn:Option Addr} {Qj:Array (Option Value)} {QG QQ Sg Qw OU Sk:Value}
    {Vd:Tok}
    {Fb:Tok}
    {Pl:Tok}
    {Vc:Tok}
    (a1:W.nsIn K mainGlobals "rank_of" = some (some (.ref f1))) (F1:Fun K "rank_of" "rank_of" jh f1 d1)
    (a2:W.nsIn K mainGlobals "in_order" = some (some (.ref f2))) (F2:Fun K "in_order" "in_order" gZ f2 d2)
    (a3:W.nsIn K mainGlobals "stretch" = some (some (.ref f3))) (F3:Fun K "stretch" "stretch" gA f3 d3)
    (a4:W.nsIn K mainGlobals "newest" = some (some (.ref f4))) (F4:Fun K "newest" "newest" kq f4 d4)
    (a5:W.nsIn K mainGlobals "padded" = some (some (.ref f5))) (F5:Fun K "padded" "padded" ko f5 d5)
    {Mn:Addr}
    (a6:W.nsIn K mainGlobals "probe" = some (some (.ref f6))) (l6:K.lookup f6 = some ⟨VA,Vz,.func (W.fnOf "probe" "probe" (cD dS) (aS dS) (ab dS) .none VR Xm Vw Yb (.ref Mn) XI),Vi⟩) (c6:W.codeIn K (.ref Mn) "probe" = true) (k6:W.keepIn K (.ref f6) = true)
    (Ut:W.codeHdIn K Mn aB = true)
    (a7:W.nsIn K mainGlobals "places_of" = some (some (.ref f7))) (F7:Fun K "places_of" "places_of" dn f7 d7)
    (a8:W.nsIn K mainGlobals "sieve_of" = some (some (.ref f8))) (F8:Fun K "sieve_of" "sieve_of" gY f8 d8)
    (a9:W.nsIn K mainGlobals "may_have" = some (some (.ref f9))) (F9:Fun K "may_have" "may_have" eK f9 d9)
    (Yt:W.nsIn K mainGlobals "sieve_of_entries" = some (some (.ref Uo))) (U0:Fun K "sieve_of_entries" "sieve_of_entries" bf Uo XG)
    (Ys:W.nsIn K mainGlobals "run_of" = some (some (.ref Um))) (UZ:Fun K "run_of" "run_of" kn Um Si)
    (UA:W.nsIn K mainGlobals "find" = some (some (.ref Sb))) (UY:Fun K "find" "find" tj Sb XF)
    (Uz:W.nsIn K mainGlobals "between" = some (some (.ref R'))) (UX:Fun K "between" "between" jj R' XE)
    (Yr:W.nsIn K mainGlobals "name_of" = some (some (.ref Ul))) (UW:Fun K "name_of" "name_of" ji Ul XD)
    (Yq:W.nsIn K mainGlobals "_law_cell_at" = some (some (.ref Uk))) (UU:Fun K "_law_cell_at" "_law_cell_at" cJ Uk XC)
    (Yp:W.nsIn K mainGlobals "_law_whole" = some (some (.ref Uj))) (UT:Fun K "_law_whole" "_law_whole" dU Uj XB)
    (Yo:W.nsIn K mainGlobals "_law_stream" = some (some (.ref Ui))) (US:Fun K "_law_stream" "_law_stream" da Ui XA)
    (Yn:W.nsIn K mainGlobals "_law_sign" = some (some (.ref Uh))) (UR:Fun K "_law_sign" "_law_sign" fq Uh Xz)
    (Ym:W.nsIn K mainGlobals "_law_text" = some (some (.ref Ug))) (UQ:Fun K "_law_text" "_law_text" dq Ug Xy)
    (Yl:W.nsIn K mainGlobals "_law_keys" = some (some (.ref Ue))) (UP:Fun K "_law_keys" "_law_keys" fz Ue Xx)
    (Yk:W.nsIn K mainGlobals "_law_value" = some (some (.ref Ud))) (UO:Fun K "_law_value" "_law_value" dW Ud Xw)
    (Yj:W.nsIn K mainGlobals "_law_entries" = some (some (.ref Uc))) (UN:Fun K "_law_entries" "_law_entries" bX Uc Xv)
    {EG:Addr}
    (Uy:W.nsIn K mainGlobals "_law_ordered" = some (some (.ref R9))) (VO:K.lookup R9 = some ⟨QH,QF,.func (W.fnOf "_law_ordered" "_law_ordered" (cD aN) (aS aN) (ab aN) .none QR Sh Qx So (.ref EG) Sl),Qk⟩) (XN:W.codeIn K (.ref EG) "_law_ordered" = true) (VT:W.keepIn K (.ref R9) = true)
    (OT:W.codeHdIn K EG qe = true)
    (Yi:W.nsIn K mainGlobals "_law_stamps" = some (some (.ref Ub))) (UM:Fun K "_law_stamps" "_law_stamps" bS Ub Xu)
    (Yh:W.nsIn K mainGlobals "_law_all_entries" = some (some (.ref Ua))) (UL:Fun K "_law_all_entries" "_law_all_entries" bI Ua Xt)
    (Yg:W.nsIn K mainGlobals "_law_many" = some (some (.ref T'))) (UK:Fun K "_law_many" "_law_many" fw T' Xs)
    (Yf:W.nsIn K mainGlobals "_law_first" = some (some (.ref T9))) (UJ:Fun K "_law_first" "_law_first" dX T9 Xr)
    (Ye:W.nsIn K mainGlobals "_law_between" = some (some (.ref T8))) (UI:Fun K "_law_between" "_law_between" bY T8 Xq)
    (Yd:W.nsIn K mainGlobals "_law_told" = some (some (.ref T7))) (UH:Fun K "_law_told" "_law_told" fo T7 Xp)
    (Yc:W.nsIn K mainGlobals "_law_says" = some (some (.ref T6))) (UG:Fun K "_law_says" "_law_says" dt T6 Xo)
    (Ux:W.nsIn K mainGlobals "law" = some (some (.ref R8))) (VN:K.lookup R8 = some ⟨QG,QE,.func (W.fnOf "law" "law" (cD nX) (aS nX) (ab nX) .none QQ Sg Qw Sn OU Sk),Qj⟩) (XM:W.codeIn K OU "law" = true) (VS:W.keepIn K (.ref R8) = true)
    (mH:K.lookup qe = none)
    (BQ:K.lookup aB = none)
    {pP:Addr} {vd vc u9:Tok} {vK:Option Addr} {yu:Nat} {vp:Array (Option Value)} (g_FACTORS:W.nsIn K mainGlobals "FACTORS" = some (some (.ref pP))) (AR:K.lookup pP = some ⟨.type "tuple",vK,.seq #[Value.int 31 vd,Value.int 37 vc,Value.int 41 u9] yu,vp⟩)
    (g0:W.nsIn K mainGlobals "GREATEST_STAMP" = some (some (Value.int 999999999 Vd)))
    (g1:W.nsIn K mainGlobals "FIRST_NUMBER" = some (some (Value.int 7 Fb)))
    (g2:W.nsIn K mainGlobals "MODULUS" = some (some (Value.int 1000003 Pl)))
    (g3:W.nsIn K mainGlobals "NAME_FIGURES" = some (some (Value.int 7 Vc)))
    (qP:W.nsIn K mainGlobals "find_runs" = some (some (.ref Sb)))
    (lX:W.nsIn K mainGlobals "between_runs" = some (some (.ref R')))
    (z0:W.nsIn K mainGlobals "_law_entry" = some none)
    (z1:W.nsIn K mainGlobals "all" = some none)
    (z2:W.nsIn K mainGlobals "bool" = some none)
    (z3:W.nsIn K mainGlobals "int" = some none)
    (z4:W.nsIn K mainGlobals "isinstance" = some none)
    (z5:W.nsIn K mainGlobals "key" = some none)
    (z6:W.nsIn K mainGlobals "len" = some none)
    (z7:W.nsIn K mainGlobals "list" = some none)
    (z8:W.nsIn K mainGlobals "max" = some none)
    (z9:W.nsIn K mainGlobals "min" = some none)
    (U9:W.nsIn K mainGlobals "ord" = some none)
    (U8:W.nsIn K mainGlobals "place_of" = some none)
    (U7:W.nsIn K mainGlobals "range" = some none)
    (U6:W.nsIn K mainGlobals "set" = some none)
    (U5:W.nsIn K mainGlobals "size" = some none)
    (U4:W.nsIn K mainGlobals "sorted" = some none)
    (U3:W.nsIn K mainGlobals "str" = some none)
    (U2:W.nsIn K mainGlobals "tuple" = some none)
    (U1:W.nsIn K mainGlobals "zip" = some none)
    {cm aW bB fU:Addr}
    (m_Part:W.nsIn K mainGlobals "Part" = some (some (.ref cm)))
    (m_InHand:W.nsIn K mainGlobals "InHand" = some (some (.ref aW)))
    (m_InRun:W.nsIn K mainGlobals "InRun" = some (some (.ref bB)))
    (m_Hand:W.nsIn K mainGlobals "Hand" = some (some (.ref fU)))
    {eC:Addr} {qJ:FuncData} (pK:W.findIn K (.ref cm) "called" = some (some (.ref eC))) (gq:FunD K "called" "Part.called" de .none eC qJ)
    {ig:Addr} {wG:FuncData} (uE:W.findIn K (.ref cm) "says" = some (some (.ref ig))) (i':FunD K "says" "Part.says" fA .none ig wG)
    {ij:Addr} {wH:FuncData} (uF:W.findIn K (.ref cm) "find" = some (some (.ref ij))) (ja:FunD K "find" "Part.find" fB .none ij wH)
    {di:Addr} {pC:FuncData} (nu:W.findIn K (.ref cm) "between" = some (some (.ref di))) (fg:FunD K "between" "Part.between" cK .none di pC)
    {eF:Addr} {qL:FuncData} (pN:W.findIn K (.ref aW) "__init__" = some (some (.ref eF))) (jP:FunD K "__init__" "InHand.__init__" dg .none eF qL)
    {cV:Addr} {nr:FuncData} (lZ:W.findIn K (.ref aW) "called" = some (some (.ref cV))) (dP:FunD K "called" "InHand.called" cA .none cV nr)
    {eE:Addr} {qK:FuncData} (pM:W.findIn K (.ref aW) "says" = some (some (.ref eE))) (gr:FunD K "says" "InHand.says" df .none eE qK)
    {eG:Addr} {qM:FuncData} (pO:W.findIn K (.ref aW) "find" = some (some (.ref eG))) (gu:FunD K "find" "InHand.find" dh .none eG qM)
    {cE:Addr} {lU:FuncData} (kY:W.findIn K (.ref aW) "between" = some (some (.ref cE))) (c9:FunD K "between" "InHand.between" ck .none cE lU)
    {fS:Addr} {uu:FuncData} (qR:W.findIn K (.ref bB) "__init__" = some (some (.ref fS))) (lh:FunD K "__init__" "InRun.__init__" dZ .none fS uu)
    {dj:Addr} {pD:FuncData} (nv:W.findIn K (.ref bB) "called" = some (some (.ref dj))) (fh:FunD K "called" "InRun.called" cL .none dj pD)
    {fR:Addr} {ur:FuncData} (qQ:W.findIn K (.ref bB) "says" = some (some (.ref fR))) (ic:FunD K "says" "InRun.says" dY .none fR ur)
    {fT:Addr} {uv:FuncData} (qS:W.findIn K (.ref bB) "find" = some (some (.ref fT))) (ie:FunD K "find" "InRun.find" d6 .none fT uv)
    {cU:Addr} {nq:FuncData} (lY:W.findIn K (.ref bB) "between" = some (some (.ref cU))) (dO:FunD K "between" "InRun.between" cz .none cU nq)
    {il:Addr} {wJ:FuncData} (uH:W.findIn K (.ref fU) "__init__" = some (some (.ref il))) (mG:FunD K "__init__" "Hand.__init__" fF .none il wJ)
    {jz:Addr} {yE:FuncData} (wZ:W.findIn K (.ref fU) "put" = some (some (.ref jz))) (j9:FunD K "put" "Hand.put" g8 .none jz yE)
    {ir:Addr} {wK:FuncData} (uI:W.findIn K (.ref fU) "find" = some (some (.ref ir))) (jc:FunD K "find" "Hand.find" fG .none ir wK)
    {ik:Addr} {wI:FuncData} (uG:W.findIn K (.ref fU) "rows" = some (some (.ref ik))) (jb:FunD K "rows" "Hand.rows" fE .none ik wI)
    {dk iO:Addr} {pE:FuncData} (ny:W.findIn K (.ref fU) "between" = some (some (.ref dk))) (fi:FunD K "between" "Hand.between" cM (.ref iO) dk pE)
    {lj:Tok}
    {mX:Value} {mW:Option Addr} {ow:Nat} {mI:Array (Option Value)} (dD:K.lookup iO = some ⟨mX,mW,.seq #[Value.str (PySem.Str.ofString "") lj,Value.none] ow,mI⟩)
    (O5:(W.findIn K (.ref fU) "kept",W.findIn K (.ref aW) "hand",W.findIn K (.ref bB) "number",W.findIn K (.ref bB) "run",W.plainGet K cm "__class__",W.findIn K (.ref cm) "__class__",W.mroIn K cm (.type "object"),W.kitCls K (.ref cm) (.ref cm),W.kitOne K (.ref cm) (.ref cm),W.plainGet K aW "__class__",W.findIn K (.ref aW) "__class__",W.mroIn K aW (.type "object"),W.kitCls K (.ref aW) (.ref aW),W.kitOne K (.ref aW) (.ref cm),W.plainGet K bB "__class__",W.findIn K (.ref bB) "__class__",W.mroIn K bB (.type "object"),W.kitCls K (.ref bB) (.ref bB),W.kitOne K (.ref bB) (.ref cm),W.specialIn K (.builtin "object.__class__") "__get__",W.takesIn K (.builtin "object.__class__"),W.isFn K (.ref eC),W.isFn K (.ref ig),W.isFn K (.ref ij),W.isFn K (.ref di),W.isFn K (.ref eF),W.isFn K (.ref cV),W.isFn K (.ref eE),W.isFn K (.ref eG),W.isFn K (.ref cE),W.isFn K (.ref fS),W.isFn K (.ref dj),W.isFn K (.ref fR),W.isFn K (.ref fT),W.isFn K (.ref cU),W.isFn K (.ref il),W.isFn K (.ref jz),W.isFn K (.ref ir),W.isFn K (.ref ik),W.isFn K (.ref dk),W.plainGet K cm Str.empty,W.hasDictIn K cm,W.plainOver K cm,W.findIn K (.ref cm) "__setattr__",W.makesIn K cm,W.keepIn K (.ref cm),W.findIn K (.ref cm) "__init__",W.plainGet K aW Str.empty,W.hasDictIn K aW,W.plainOver K aW,W.findIn K (.ref aW) "__setattr__",W.makesIn K aW,W.keepIn K (.ref aW),W.plainGet K bB Str.empty,W.hasDictIn K bB,W.plainOver K bB,W.findIn K (.ref bB) "__setattr__",W.makesIn K bB,W.keepIn K (.ref bB),W.plainGet K fU Str.empty,W.hasDictIn K fU,W.plainOver K fU,W.findIn K (.ref fU) "__setattr__",W.makesIn K fU,W.keepIn K (.ref fU)) = (some none,some none,some none,some none,true,some (some (.builtin "object.__class__")),some true,some true,some true,true,some (some (.builtin "object.__class__")),some true,some true,some true,true,some (some (.builtin "object.__class__")),some true,some true,some true,some (some (.builtin "getset_descriptor.__get__")),some true,true,true,true,true,true,true,true,true,true,true,true,true,true,true,true,true,true,true,true,true,true,true,some (some (.builtin "object.__setattr__")),true,true,some (some (.builtin "object.__init__")),true,true,true,some (some (.builtin "object.__setattr__")),true,true,true,true,true,some (some (.builtin "object.__setattr__")),true,true,true,true,true,some (some (.builtin "object.__setattr__")),true,true))
    : (∀ p ∈ tabs,K.lookup p = none/\∃ c,W.codeHdIn K c p = true)/\∃ fd:FuncData,(∀ (s:Shared) (v:Value),BindsTo s fd ⟨[v],[]⟩ [("_law_script",v)])/\∀ base:Heap,K.In base->base.Ns mainGlobals mg->(∀ p ∈ tabs,base.BuiltinsAt mg p)->FnOk l.prog w K mg base bR 9 fa fd ["_law_script"] (yW K):=by
 simp only [Prod.mk.injEq] at O5;obtain ⟨na1,na2,na3,na4,xg_Part,xa_Part,xm_Part,xk_Part,xo_Part,xg_InHand,xa_InHand,xm_InHand,xk_InHand,xo_InHand,xg_InRun,xa_InRun,xm_InRun,xk_InRun,xo_InRun,xn,xt,oR,uh,ui,nh,oT,lS,oS,oU,kM,qG,ni,qF,qH,lR,uk,wz,um,uj,nj,GF,Ia,Gw,FJ,HA,HL,HR,Aw,A9,Ar,Aj,AL,AV,Dw,Ei,Dr,CS,DX,D8,GG,Ib,Gx,FK,HB,HM⟩:=O5;have e:=MW.symm.trans (W.mg_of X G Ux)
 cases e
 have b1:=F1.binds (ps:=["entry"]) fun _ _ _ _ _ _ us hl=>match us,hl with | [_],_=>rfl
 have b2:=F2.binds (ps:=["entries"]) fun _ _ _ _ _ _ us hl=>match us,hl with | [_],_=>rfl
 have b3:=F3.binds (ps:=["entries","low","high"]) fun _ _ _ _ _ _ us hl=>match us,hl with | [_,_,_],_=>rfl
 have b4:=F4.binds (ps:=["entries","key","stamp"]) fun _ _ _ _ _ _ us hl=>match us,hl with | [_,_,_],_=>rfl
 have b5:=F5.binds (ps:=["number","width"]) fun _ _ _ _ _ _ us hl=>match us,hl with | [_,_],_=>rfl
 have F6:=fun_mk (st:=dS) l6 c6 k6;have b6:=F6.binds (ps:=["factor"]) fun _ _ _ _ _ _ us hl=>match us,hl with | [_],_=>rfl
 have b7:=F7.binds (ps:=["key","size"]) fun _ _ _ _ _ _ us hl=>match us,hl with | [_,_],_=>rfl
 have b8:=F8.binds (ps:=["keys"]) fun _ _ _ _ _ _ us hl=>match us,hl with | [_],_=>rfl
 have b9:=F9.binds (ps:=["sieve","key"]) fun _ _ _ _ _ _ us hl=>match us,hl with | [_,_],_=>rfl
 have X':=U0.binds (ps:=["entries"]) fun _ _ _ _ _ _ us hl=>match us,hl with | [_],_=>rfl
 have X9:=UZ.binds (ps:=["entries"]) fun _ _ _ _ _ _ us hl=>match us,hl with | [_],_=>rfl
 have X8:=UY.binds (ps:=["run","key","stamp"]) fun _ _ _ _ _ _ us hl=>match us,hl with | [_,_,_],_=>rfl
 have X7:=UX.binds (ps:=["run","low","high"]) fun _ _ _ _ _ _ us hl=>match us,hl with | [_,_,_],_=>rfl
 have X6:=UW.binds (ps:=["number"]) fun _ _ _ _ _ _ us hl=>match us,hl with | [_],_=>rfl
 have X5:=UU.binds (ps:=["_law_script","_law_k"]) fun _ _ _ _ _ _ us hl=>match us,hl with | [_,_],_=>rfl
 have X4:=UT.binds (ps:=["_law_found"]) fun _ _ _ _ _ _ us hl=>match us,hl with | [_],_=>rfl
 have X3:=US.binds (ps:=["_law_cell","_law_many_here"]) fun _ _ _ _ _ _ us hl=>match us,hl with | [_,_],_=>rfl
 have X2:=UR.binds (ps:=["_law_x"]) fun _ _ _ _ _ _ us hl=>match us,hl with | [_],_=>rfl
 have X1:=UQ.binds (ps:=["_law_x","_law_most"]) fun _ _ _ _ _ _ us hl=>match us,hl with | [_,_],_=>rfl
 have X0:=UP.binds (ps:=["_law_cell","_law_many_here"]) fun _ _ _ _ _ _ us hl=>match us,hl with | [_,_],_=>rfl
 have XZ:=UO.binds (ps:=["_law_x"]) fun _ _ _ _ _ _ us hl=>match us,hl with | [_],_=>rfl
 have XY:=UN.binds (ps:=["_law_cell","_law_many_here"]) fun _ _ _ _ _ _ us hl=>match us,hl with | [_,_],_=>rfl
 have Sv:=fun_mk (st:=aN) VO XN VT;have Uu:=Sv.binds (ps:=["_law_entries_here"]) fun _ _ _ _ _ _ us hl=>match us,hl with | [_],_=>rfl
 have XX:=UM.binds (ps:=["_law_entries_here","_law_cell"]) fun _ _ _ _ _ _ us hl=>match us,hl with | [_,_],_=>rfl
 have XW:=UL.binds (ps:=["_law_found"]) fun _ _ _ _ _ _ us hl=>match us,hl with | [_],_=>rfl
 have XU:=UK.binds (ps:=["_law_cell"]) fun _ _ _ _ _ _ us hl=>match us,hl with | [_],_=>rfl
 have XT:=UJ.binds (ps:=["_law_entries_here","_law_word","_law_stamp"]) fun _ _ _ _ _ _ us hl=>match us,hl with | [_,_,_],_=>rfl
 have XS:=UI.binds (ps:=["_law_row","_law_low","_law_high"]) fun _ _ _ _ _ _ us hl=>match us,hl with | [_,_,_],_=>rfl
 have XR:=UH.binds (ps:=["_law_part","_law_row","_law_words","_law_stamps_here","_law_bounds"]) fun _ _ _ _ _ _ us hl=>match us,hl with | [_,_,_,_,_],_=>rfl
 have XQ:=UG.binds (ps:=["_law_hand","_law_run","_law_sieve","_law_row","_law_words"]) fun _ _ _ _ _ _ us hl=>match us,hl with | [_,_,_,_,_],_=>rfl
 have UE:=fun_mk (st:=nX) VN XM VS;have XO:=UE.binds (ps:=["_law_script"]) fun _ _ _ _ _ _ us hl=>match us,hl with | [_],_=>rfl
 obtain ⟨_,_,_,_,_,_,_,_,_,rfl,_,_⟩:=gq.ex;obtain ⟨_,_,_,_,_,_,_,_,_,rfl,_,_⟩:=i'.ex;obtain ⟨_,_,_,_,_,_,_,_,_,rfl,_,_⟩:=ja.ex;obtain ⟨_,_,_,_,_,_,_,_,_,rfl,_,_⟩:=fg.ex;obtain ⟨_,_,_,_,_,_,_,_,_,rfl,_,_⟩:=jP.ex;obtain ⟨_,_,_,_,_,_,_,_,_,rfl,_,_⟩:=dP.ex;obtain ⟨_,_,_,_,_,_,_,_,_,rfl,_,_⟩:=gr.ex;obtain ⟨_,_,_,_,_,_,_,_,_,rfl,_,_⟩:=gu.ex;obtain ⟨_,_,_,_,_,_,_,_,_,rfl,_,_⟩:=c9.ex;obtain ⟨_,_,_,_,_,_,_,_,_,rfl,_,_⟩:=lh.ex;obtain ⟨_,_,_,_,_,_,_,_,_,rfl,_,_⟩:=fh.ex;obtain ⟨_,_,_,_,_,_,_,_,_,rfl,_,_⟩:=ic.ex;obtain ⟨_,_,_,_,_,_,_,_,_,rfl,_,_⟩:=ie.ex;obtain ⟨_,_,_,_,_,_,_,_,_,rfl,_,_⟩:=dO.ex;obtain ⟨_,_,_,_,_,_,_,_,_,rfl,_,_⟩:=mG.ex;obtain ⟨_,_,_,_,_,_,_,_,_,rfl,_,_⟩:=j9.ex;obtain ⟨_,_,_,_,_,_,_,_,_,rfl,_,_⟩:=jc.ex;obtain ⟨_,_,_,_,_,_,_,_,_,rfl,_,_⟩:=jb.ex;obtain ⟨_,_,_,_,_,_,_,_,_,rfl,_,_⟩:=fi.ex;have T:Txt K mg:={ g_FACTORS:=⟨_,⟨_,W.mg_of X G g_FACTORS,rfl⟩,fun H=>.inr ⟨_,_,_,AR,rfl,rfl,by simp [sizeLine_eq],.cons ⟨_,rfl⟩ (.cons ⟨_,rfl⟩ (.cons ⟨_,rfl⟩ (.nil)))⟩⟩,f_rank_of:=⟨_,_,F1,W.mg_of X G a1,b1⟩,f_in_order:=⟨_,_,F2,W.mg_of X G a2,b2⟩,f_stretch:=⟨_,_,F3,W.mg_of X G a3,b3⟩,f_newest:=⟨_,_,F4,W.mg_of X G a4,b4⟩,f_padded:=⟨_,_,F5,W.mg_of X G a5,b5⟩,f_probe:=⟨_,_,F6,W.mg_of X G a6,b6⟩,c_probe:=⟨_,_,_,⟨F6,W.mg_of X G a6,b6⟩,rfl,Ut⟩,f_places_of:=⟨_,_,F7,W.mg_of X G a7,b7⟩,f_sieve_of:=⟨_,_,F8,W.mg_of X G a8,b8⟩,f_may_have:=⟨_,_,F9,W.mg_of X G a9,b9⟩,f_sieve_of_entries:=⟨_,_,U0,W.mg_of X G Yt,X'⟩,f_run_of:=⟨_,_,UZ,W.mg_of X G Ys,X9⟩,f_find:=⟨_,_,UY,W.mg_of X G UA,X8⟩,f_between:=⟨_,_,UX,W.mg_of X G Uz,X7⟩,f_name_of:=⟨_,_,UW,W.mg_of X G Yr,X6⟩,f__law_cell_at:=⟨_,_,UU,W.mg_of X G Yq,X5⟩,f__law_whole:=⟨_,_,UT,W.mg_of X G Yp,X4⟩,f__law_stream:=⟨_,_,US,W.mg_of X G Yo,X3⟩,f__law_sign:=⟨_,_,UR,W.mg_of X G Yn,X2⟩,f__law_text:=⟨_,_,UQ,W.mg_of X G Ym,X1⟩,f__law_keys:=⟨_,_,UP,W.mg_of X G Yl,X0⟩,f__law_value:=⟨_,_,UO,W.mg_of X G Yk,XZ⟩,f__law_entries:=⟨_,_,UN,W.mg_of X G Yj,XY⟩,f__law_ordered:=⟨_,_,Sv,W.mg_of X G Uy,Uu⟩,c__law_ordered:=⟨_,_,_,⟨Sv,W.mg_of X G Uy,Uu⟩,rfl,OT⟩,f__law_stamps:=⟨_,_,UM,W.mg_of X G Yi,XX⟩,f__law_all_entries:=⟨_,_,UL,W.mg_of X G Yh,XW⟩,f__law_many:=⟨_,_,UK,W.mg_of X G Yg,XU⟩,f__law_first:=⟨_,_,UJ,W.mg_of X G Yf,XT⟩,f__law_between:=⟨_,_,UI,W.mg_of X G Ye,XS⟩,f__law_told:=⟨_,_,UH,W.mg_of X G Yd,XR⟩,f__law_says:=⟨_,_,UG,W.mg_of X G Yc,XQ⟩,g_GREATEST_STAMP:=⟨_,W.mg_of X G g0,⟨_,rfl⟩⟩,g_FIRST_NUMBER:=⟨_,W.mg_of X G g1,⟨_,rfl⟩⟩,g_MODULUS:=⟨_,W.mg_of X G g2,⟨_,rfl⟩⟩,g_NAME_FIGURES:=⟨_,W.mg_of X G g3,⟨_,rfl⟩⟩,al_find_runs:=fun f e=>by rw [W.mg_of X G UA] at e;cases e;exact W.mg_of X G qP,al_between_runs:=fun f e=>by rw [W.mg_of X G Uz] at e;cases e;exact W.mg_of X G lX,b__law_entry:=W.mg_none_of X G z0,b_all:=W.mg_none_of X G z1,b_bool:=W.mg_none_of X G z2,b_int:=W.mg_none_of X G z3,b_isinstance:=W.mg_none_of X G z4,b_key:=W.mg_none_of X G z5,b_len:=W.mg_none_of X G z6,b_list:=W.mg_none_of X G z7,b_max:=W.mg_none_of X G z8,b_min:=W.mg_none_of X G z9,b_ord:=W.mg_none_of X G U9,b_place_of:=W.mg_none_of X G U8,b_range:=W.mg_none_of X G U7,b_set:=W.mg_none_of X G U6,b_size:=W.mg_none_of X G U5,b_sorted:=W.mg_none_of X G U4,b_str:=W.mg_none_of X G U3,b_tuple:=W.mg_none_of X G U2,b_zip:=W.mg_none_of X G U1,cl:=⟨⟨cm,aW,bB,fU,eC,ig,ij,di,eF,cV,eE,eG,cE,fS,dj,fR,fT,cU,il,jz,ir,ik,dk⟩,{ i_Part_called:=⟨_,_,gq,⟨_,.nil,fun s us X hl=>match us,aD (n:=1) hl rfl with | [_],_=>.of_eq rfl⟩⟩,me_Part_called:=⟨pK,oR,gq.kp⟩,i_Part_says:=⟨_,_,i',⟨_,.nil,fun s us X hl=>match us,aD (n:=2) hl rfl with | [_,_],_=>.of_eq rfl⟩⟩,me_Part_says:=⟨uE,uh,i'.kp⟩,i_Part_find:=⟨_,_,ja,⟨_,.nil,fun s us X hl=>match us,aD (n:=3) hl rfl with | [_,_,_],_=>.of_eq rfl⟩⟩,me_Part_find:=⟨uF,ui,ja.kp⟩,i_Part_between:=⟨_,_,fg,⟨_,.nil,fun s us X hl=>match us,aD (n:=3) hl rfl with | [_,_,_],_=>.of_eq rfl⟩⟩,me_Part_between:=⟨nu,nh,fg.kp⟩,i_InHand_init:=⟨_,_,jP,⟨_,.nil,fun s us X hl=>match us,aD (n:=2) hl rfl with | [_,_],_=>.of_eq rfl⟩⟩,mk_InHand:=⟨AL,pN,oT,AV⟩,i_InHand_called:=⟨_,_,dP,⟨_,.nil,fun s us X hl=>match us,aD (n:=1) hl rfl with | [_],_=>.of_eq rfl⟩⟩,me_InHand_called:=⟨lZ,lS,dP.kp⟩,i_InHand_says:=⟨_,_,gr,⟨_,.nil,fun s us X hl=>match us,aD (n:=2) hl rfl with | [_,_],_=>.of_eq rfl⟩⟩,me_InHand_says:=⟨pM,oS,gr.kp⟩,i_InHand_find:=⟨_,_,gu,⟨_,.nil,fun s us X hl=>match us,aD (n:=3) hl rfl with | [_,_,_],_=>.of_eq rfl⟩⟩,me_InHand_find:=⟨pO,oU,gu.kp⟩,i_InHand_between:=⟨_,_,c9,⟨_,.nil,fun s us X hl=>match us,aD (n:=3) hl rfl with | [_,_,_],_=>.of_eq rfl⟩⟩,me_InHand_between:=⟨kY,kM,c9.kp⟩,i_InRun_init:=⟨_,_,lh,⟨_,.nil,fun s us X hl=>match us,aD (n:=3) hl rfl with | [_,_,_],_=>.of_eq rfl⟩⟩,mk_InRun:=⟨DX,qR,qG,D8⟩,i_InRun_called:=⟨_,_,fh,⟨_,.nil,fun s us X hl=>match us,aD (n:=1) hl rfl with | [_],_=>.of_eq rfl⟩⟩,me_InRun_called:=⟨nv,ni,fh.kp⟩,i_InRun_says:=⟨_,_,ic,⟨_,.nil,fun s us X hl=>match us,aD (n:=2) hl rfl with | [_,_],_=>.of_eq rfl⟩⟩,me_InRun_says:=⟨qQ,qF,ic.kp⟩,i_InRun_find:=⟨_,_,ie,⟨_,.nil,fun s us X hl=>match us,aD (n:=3) hl rfl with | [_,_,_],_=>.of_eq rfl⟩⟩,me_InRun_find:=⟨qS,qH,ie.kp⟩,i_InRun_between:=⟨_,_,dO,⟨_,.nil,fun s us X hl=>match us,aD (n:=3) hl rfl with | [_,_,_],_=>.of_eq rfl⟩⟩,me_InRun_between:=⟨lY,lR,dO.kp⟩,i_Hand_init:=⟨_,_,mG,⟨_,.nil,fun s us X hl=>match us,aD (n:=1) hl rfl with | [_],_=>.of_eq rfl⟩⟩,mk_Hand:=⟨HB,uH,uk,HM⟩,i_Hand_put:=⟨_,_,j9,⟨_,.nil,fun s us X hl=>match us,aD (n:=4) hl rfl with | [_,_,_,_],_=>.of_eq rfl⟩⟩,me_Hand_put:=⟨wZ,wz,j9.kp⟩,i_Hand_find:=⟨_,_,jc,⟨_,.nil,fun s us X hl=>match us,aD (n:=3) hl rfl with | [_,_,_],_=>.of_eq rfl⟩⟩,me_Hand_find:=⟨uI,um,jc.kp⟩,i_Hand_rows:=⟨_,_,jb,⟨_,.nil,fun s us X hl=>match us,aD (n:=1) hl rfl with | [_],_=>.of_eq rfl⟩⟩,me_Hand_rows:=⟨uG,uj,jb.kp⟩,i_Hand_between:=⟨_,_,fi,⟨_,.nil,fun s us X hl=>match us,aD (n:=3) hl rfl with | [_,_,_],_=>W.binds_K X rfl dD rfl rfl rfl⟩,⟨_,(.cons rfl .nil),fun s us X hl=>match us,aD (n:=2) hl rfl with | [_,_],_=>W.binds_K X rfl dD rfl rfl rfl⟩,⟨_,(.cons ⟨_,rfl⟩ (.cons rfl .nil)),fun s us X hl=>match us,aD (n:=1) hl rfl with | [_],_=>W.binds_K X rfl dD rfl rfl rfl⟩⟩,me_Hand_between:=⟨ny,nj,fi.kp⟩,c_Part:=⟨GF,Ia,Gw,FJ⟩,c_InHand:=⟨Aw,A9,Ar,Aj⟩,c_InRun:=⟨Dw,Ei,Dr,CS⟩,c_Hand:=⟨GG,Ib,Gx,FK⟩,mo_Part:=⟨HA,HR,HL⟩,m_Part:=W.mg_of X G m_Part,m_InHand:=W.mg_of X G m_InHand,m_InRun:=W.mg_of X G m_InRun,m_Hand:=W.mg_of X G m_Hand,na1:=na1,na2:=na2,na3:=na3,na4:=na4,xg_Part:=xg_Part,xa_Part:=xa_Part,xm_Part:=xm_Part,xk_Part:=xk_Part,xo_Part:=xo_Part,xg_InHand:=xg_InHand,xa_InHand:=xa_InHand,xm_InHand:=xm_InHand,xk_InHand:=xk_InHand,xo_InHand:=xo_InHand,xg_InRun:=xg_InRun,xa_InRun:=xa_InRun,xm_InRun:=xm_InRun,xk_InRun:=xk_InRun,xo_InRun:=xo_InRun,xn:=xn,xt:=xt }⟩ }
 exact ⟨fun p hp=>by
  simp only [List.mem_cons,List.not_mem_nil,or_false] at hp
  rcases hp with rfl | rfl
  ·exact ⟨mH,_,OT⟩
  ·exact ⟨BQ,_,Ut⟩,_,fun s v=>.of_eq rfl,fun base kIn _ hB=>Ln T hB kIn ⟨UE,W.mg_of X G Ux,XO⟩⟩
theorem walk {l : W.OpenLaw} {q : Program} {loose : List Str} {XP : (Str -> Option Value) -> Heap -> Prop} {YP : World -> Heap -> Prop} {d : DefRec} {K : Params -> W.Frag} (hn : l.most = some 63) (OB : d.params.defaults = [])
    (hY:∀ (w:World) (h:Heap),YP w h->(K w.params).In h/\∀ p ∈ tabs,h.get? p = some (W.tabObj #[]))
    (F:∀ (w:World) (mg:Str->Option Value) (fa:Addr) (h:Heap),(K w.params).In h->h.Ns mainGlobals mg->mg d.name = some (.ref fa) ->
     (∀ p ∈ tabs,(K w.params).lookup p = none/\∃ c,W.codeHdIn (K w.params) c p = true)/\∃ fd:FuncData,(∀ (s:Shared) (u:Value),BindsTo s fd ⟨[u],[]⟩ [("_law_script",u)])/\∀ base:Heap,(K w.params).In base->base.Ns mainGlobals mg->(∀ p ∈ tabs,base.BuiltinsAt mg p)->FnOk l.prog w (K w.params) mg base bR 9 fa fd ["_law_script"] (yW (K w.params))) :
    W.WalkO q loose XP YP l.row.toRowW d [] (fun f vs=>PySem.call f vs) :=
 L2.walk_ofT (n:=63) (ts:=tabs) (k:=9) (x:="_law_script") (CX:=fun _=>bR) (sp:=fun w=>yW (K w.params)) hn (by decide) OB ⟨rfl,by decide,by decide⟩ hY F (fun _ _ a ns hl hT hS=>⟨a,ns,rfl,hS,hl,TabOk.start (hT qe (by simp)),TabOk.start (hT aB (by simp)),fun _=>rfl⟩) fun _ _ _ _ _ z=>z
end T60
namespace PySem.W.Fast
def tw15941592787714975399:=()
def tw18255639964191392591:=()
def tw13901398147538297947:=()
def tw2094603149330484465:=()
def tw143271495109846538:=()
def tw14168775188455379353:=()
def tw6127188401090255176:=()
def tw1752590374391664736:=()
def tw16222573206304951595:=()
def tw14063894812953889870:=()
def tw279003074193900470:=()
def tw10834276764202388429:=()
def tw4341397224370107832:=()
def tw13841412220060811323:=()
def tw18034984762726531342:=()
def tw8580113913523568463:=()
def tw11813684750842406389:=()
def tw17719720821687401305:=()
def tw9130362859791204991:=()
def tw16595377935370566034:=()
def tw5137907835240463254:=()
def tw2597083748560662032:=()
def tw17021201666162202242:=()
def tw9945898081995529915:=()
def tw8220880136762695520:=()
def tw14607176576789455370:=()
def tw13125678644710389338:=()
def tw9249901811484407354:=()
def tw9976997929645660779:=()
def tw1751102999630960634:=()
def tw6878540770323481710:=()
def tw12756140055269041782:=()
def tw11729847379674936495:=()
def tw3655921524833226218:=()
def tw4683503678483716026:=()
def tw11506896205928927373:=()
def tw18416928350162975578:=()
def tw3292964872005431271:=()
def tw7338571021379523539:=()
def tw16272235759826955935:=()
def tw1117881922692133191:=()
def tw12908222174634321901:=()
def tw1018138979154080573:=()
def tw3348628407650883599:=()
def tw725962455287493233:=()
def tw9976896127182051843:=()
def tw4483126355207265744:=()
def tw17414983830574234299:=()
def tw14919036439659782966:=()
def tw478983169126256833:=()
def tw16628431005457210143:=()
def tw11852870800369049818:=()
def tw14752809100001651924:=()
def tw11799733387893817737:=()
def tw6711047446622726164:=()
def tw18268740708899509579:=()
def tw9160133643620515747:=()
def tw17228602110524929287:=()
def tw8183503379204342524:=()
def tw935738913094298046:=()
def tw14628068216215118857:=()
def tw6467829784440416740:=()
def tw8446167938417958996:=()
def tw12140464130416237116:=()
def tw7829183041877438185:=()
def tw12686360349934446735:=()
def tw11004464052857919347:=()
def tw17440174981159793695:=()
def tw5554440982684628116:=()
def tw11625745121379149682:=()
def tw8278438426680719329:=()
def tw16158445308520484378:=()
def tw17801489301118610556:=()
def tw8377867711031583328:=()
def tw13016513433855790374:=()
def tw7717825844854636390:=()
def tw5703975397810086990:=()
def tw17503593059963213615:=()
def tw15626790423086682190:=()
def tw3869753024286983684:=()
def tw2310941557824005049:=()
def tw1349966916112517489:=()
def tw9119159278911911150:=()
def tw18125696585553369111:=()
def tw12211430365040563682:=()
def tw18048613611565078228:=()
def tw8347567608322002827:=()
def tw13506280830387994167:=()
def tw336338439872928069:=()
def tw4887426321452674842:=()
def tw1185852453647307219:=()
def tw8626956084817394795:=()
def tw7786840407257190939:=()
def tw14273674093673118886:=()
def tw12079622559383303147:=()
def tw3454143633291918841:=()
def tw14656560381186508688:=()
def tw11116673674202499342:=()
def tw13742021925434293536:=()
def tw12127055357938188297:=()
def tw4023611841296389067:=()
def tw4416731217354698158:=()
def tw4721666349014781658:=()
def tw10243512732287145242:=()
def tw7743033672569003723:=()
def tw12428161053408227874:=()
def tw3373994867188947383:=()
end PySem.W.Fast
open PySem PySem.W PyProof.Rows
set_option maxRecDepth 100000 in
set_option maxHeartbeats 0 in
theorem PySem.Challenge.cw_tierstore_k60_parts_tell_holds : PySem.Challenge.rw_tierstore_k60_parts_tell.Holds := by
 w_on;o_law;k_head;(case hw=>w_witness2)
 k_fill
 refine T60.walk (l:=PySem.Challenge.rw_tierstore_k60_parts_tell) rfl rfl (fun w h Y=>⟨Y.1,Y.2⟩) ?F
 case F =>
  intro w mg fa h KX G Ol;refine' T60.all_mk KX G Ol ?xa1 (L2.fun_mk ?xl1 ?xc1 ?xk1) ?xa2 (L2.fun_mk ?xl2 ?xc2 ?xk2) ?xa3 (L2.fun_mk ?xl3 ?xc3 ?xk3) ?xa4 (L2.fun_mk ?xl4 ?xc4 ?xk4) ?xa5 (L2.fun_mk ?xl5 ?xc5 ?xk5) ?xa6 ?xl6 ?xc6 ?xk6 ?xch6 ?xa7 (L2.fun_mk ?xl7 ?xc7 ?xk7) ?xa8 (L2.fun_mk ?xl8 ?xc8 ?xk8) ?xa9 (L2.fun_mk ?xl9 ?xc9 ?xk9) ?xa10 (L2.fun_mk ?xl10 ?xc10 ?xk10) ?xa11 (L2.fun_mk ?xl11 ?xc11 ?xk11) ?xa12 (L2.fun_mk ?xl12 ?xc12 ?xk12) ?xa13 (L2.fun_mk ?xl13 ?xc13 ?xk13) ?xa14 (L2.fun_mk ?xl14 ?xc14 ?xk14) ?xa15 (L2.fun_mk ?xl15 ?xc15 ?xk15) ?xa16 (L2.fun_mk ?xl16 ?xc16 ?xk16) ?xa17 (L2.fun_mk ?xl17 ?xc17 ?xk17) ?xa18 (L2.fun_mk ?xl18 ?xc18 ?xk18) ?xa19 (L2.fun_mk ?xl19 ?xc19 ?xk19) ?xa20 (L2.fun_mk ?xl20 ?xc20 ?xk20) ?xa21 (L2.fun_mk ?xl21 ?xc21 ?xk21) ?xa22 (L2.fun_mk ?xl22 ?xc22 ?xk22) ?xa23 ?xl23 ?xc23 ?xk23 ?xch23 ?xa24 (L2.fun_mk ?xl24 ?xc24 ?xk24) ?xa25 (L2.fun_mk ?xl25 ?xc25 ?xk25) ?xa26 (L2.fun_mk ?xl26 ?xc26 ?xk26) ?xa27 (L2.fun_mk ?xl27 ?xc27 ?xk27) ?xa28 (L2.fun_mk ?xl28 ?xc28 ?xk28) ?xa29 (L2.fun_mk ?xl29 ?xc29 ?xk29) ?xa30 (L2.fun_mk ?xl30 ?xc30 ?xk30) ?xa31 ?xl31 ?xc31 ?xk31 ?xtb__law_ordered ?xtb_probe ?xg_FACTORS ?xl_FACTORS ?xg0 ?xg1 ?xg2 ?xg3 ?xaly_find_runs ?xaly_between_runs ?xz0 ?xz1 ?xz2 ?xz3 ?xz4 ?xz5 ?xz6 ?xz7 ?xz8 ?xz9 ?xz10 ?xz11 ?xz12 ?xz13 ?xz14 ?xz15 ?xz16 ?xz17 ?xz18 ?xm_Part ?xm_InHand ?xm_InRun ?xm_Hand ?xai_Part_called (L2.funD_mk ?xli_Part_called ?xci_Part_called ?xki_Part_called) ?xai_Part_says (L2.funD_mk ?xli_Part_says ?xci_Part_says ?xki_Part_says) ?xai_Part_find (L2.funD_mk ?xli_Part_find ?xci_Part_find ?xki_Part_find) ?xai_Part_between (L2.funD_mk ?xli_Part_between ?xci_Part_between ?xki_Part_between) ?xai_InHand_init (L2.funD_mk ?xli_InHand_init ?xci_InHand_init ?xki_InHand_init) ?xai_InHand_called (L2.funD_mk ?xli_InHand_called ?xci_InHand_called ?xki_InHand_called) ?xai_InHand_says (L2.funD_mk ?xli_InHand_says ?xci_InHand_says ?xki_InHand_says) ?xai_InHand_find (L2.funD_mk ?xli_InHand_find ?xci_InHand_find ?xki_InHand_find) ?xai_InHand_between (L2.funD_mk ?xli_InHand_between ?xci_InHand_between ?xki_InHand_between) ?xai_InRun_init (L2.funD_mk ?xli_InRun_init ?xci_InRun_init ?xki_InRun_init) ?xai_InRun_called (L2.funD_mk ?xli_InRun_called ?xci_InRun_called ?xki_InRun_called) ?xai_InRun_says (L2.funD_mk ?xli_InRun_says ?xci_InRun_says ?xki_InRun_says) ?xai_InRun_find (L2.funD_mk ?xli_InRun_find ?xci_InRun_find ?xki_InRun_find) ?xai_InRun_between (L2.funD_mk ?xli_InRun_between ?xci_InRun_between ?xki_InRun_between) ?xai_Hand_init (L2.funD_mk ?xli_Hand_init ?xci_Hand_init ?xki_Hand_init) ?xai_Hand_put (L2.funD_mk ?xli_Hand_put ?xci_Hand_put ?xki_Hand_put) ?xai_Hand_find (L2.funD_mk ?xli_Hand_find ?xci_Hand_find ?xki_Hand_find) ?xai_Hand_rows (L2.funD_mk ?xli_Hand_rows ?xci_Hand_rows ?xki_Hand_rows) ?xai_Hand_between (L2.funD_mk ?xli_Hand_between ?xci_Hand_between ?xki_Hand_between) ?xti_Hand_between ?xallc
  (case xa1=>k_is);(case xl1=>k_is);(case xc1=>k_is);(case xk1=>k_is);(case xa2=>k_is);(case xl2=>k_is)
  (case xc2=>k_is);(case xk2=>k_is);(case xa3=>k_is);(case xl3=>k_is);(case xc3=>k_is);(case xk3=>k_is)
  (case xa4=>k_is);(case xl4=>k_is);(case xc4=>k_is);(case xk4=>k_is);(case xa5=>k_is);(case xl5=>k_is)
  (case xc5=>k_is);(case xk5=>k_is);(case xa6=>k_is);(case xl6=>k_is);(case xc6=>k_is);(case xk6=>k_is)
  (case xch6=>kernel_rfl);(case xa7=>k_is);(case xl7=>k_is);(case xc7=>k_is);(case xk7=>k_is);(case xa8=>k_is)
  (case xl8=>k_is);(case xc8=>k_is);(case xk8=>k_is);(case xa9=>k_is);(case xl9=>k_is);(case xc9=>k_is)
  (case xk9=>k_is);(case xa10=>k_is);(case xl10=>k_is);(case xc10=>k_is);(case xk10=>k_is);(case xa11=>k_is)
  (case xl11=>k_is);(case xc11=>k_is);(case xk11=>k_is);(case xa12=>k_is);(case xl12=>k_is);(case xc12=>k_is)
  (case xk12=>k_is);(case xa13=>k_is);(case xl13=>k_is);(case xc13=>k_is);(case xk13=>k_is);(case xa14=>k_is)
  (case xl14=>k_is);(case xc14=>k_is);(case xk14=>k_is);(case xa15=>k_is);(case xl15=>k_is);(case xc15=>k_is)
  (case xk15=>k_is);(case xa16=>k_is);(case xl16=>k_is);(case xc16=>k_is);(case xk16=>k_is);(case xa17=>k_is)
  (case xl17=>k_is);(case xc17=>k_is);(case xk17=>k_is);(case xa18=>k_is);(case xl18=>k_is);(case xc18=>k_is)
  (case xk18=>k_is);(case xa19=>k_is);(case xl19=>k_is);(case xc19=>k_is);(case xk19=>k_is);(case xa20=>k_is)
  (case xl20=>k_is);(case xc20=>k_is);(case xk20=>k_is);(case xa21=>k_is);(case xl21=>k_is);(case xc21=>k_is)
  (case xk21=>k_is);(case xa22=>k_is);(case xl22=>k_is);(case xc22=>k_is);(case xk22=>k_is);(case xa23=>k_is)
  (case xl23=>k_is);(case xc23=>k_is);(case xk23=>k_is);(case xch23=>kernel_rfl);(case xa24=>k_is);(case xl24=>k_is)
  (case xc24=>k_is);(case xk24=>k_is);(case xa25=>k_is);(case xl25=>k_is);(case xc25=>k_is);(case xk25=>k_is)
  (case xa26=>k_is);(case xl26=>k_is);(case xc26=>k_is);(case xk26=>k_is);(case xa27=>k_is);(case xl27=>k_is)
  (case xc27=>k_is);(case xk27=>k_is);(case xa28=>k_is);(case xl28=>k_is);(case xc28=>k_is);(case xk28=>k_is)
  (case xa29=>k_is);(case xl29=>k_is);(case xc29=>k_is);(case xk29=>k_is);(case xa30=>k_is);(case xl30=>k_is)
  (case xc30=>k_is);(case xk30=>k_is);(case xa31=>k_is);(case xl31=>k_is);(case xc31=>k_is);(case xk31=>k_is)
  (case xtb__law_ordered=>kernel_rfl);(case xtb_probe=>kernel_rfl);(case xg_FACTORS=>k_is);(case xl_FACTORS=>k_is);(case xg0=>k_is);(case xg1=>k_is)
  (case xg2=>k_is);(case xg3=>k_is);(case xaly_find_runs=>k_is);(case xaly_between_runs=>k_is);(case xz0=>k_is);(case xz1=>k_is)
  (case xz2=>k_is);(case xz3=>k_is);(case xz4=>k_is);(case xz5=>k_is);(case xz6=>k_is);(case xz7=>k_is)
  (case xz8=>k_is);(case xz9=>k_is);(case xz10=>k_is);(case xz11=>k_is);(case xz12=>k_is);(case xz13=>k_is)
  (case xz14=>k_is);(case xz15=>k_is);(case xz16=>k_is);(case xz17=>k_is);(case xz18=>k_is);(case xm_Part=>k_is)
  (case xm_InHand=>k_is);(case xm_InRun=>k_is);(case xm_Hand=>k_is);(case xai_Part_called=>k_is);(case xli_Part_called=>k_is);(case xci_Part_called=>k_is)
  (case xki_Part_called=>k_is);(case xai_Part_says=>k_is);(case xli_Part_says=>k_is);(case xci_Part_says=>k_is);(case xki_Part_says=>k_is);(case xai_Part_find=>k_is)
  (case xli_Part_find=>k_is);(case xci_Part_find=>k_is);(case xki_Part_find=>k_is);(case xai_Part_between=>k_is);(case xli_Part_between=>k_is);(case xci_Part_between=>k_is)
  (case xki_Part_between=>k_is);(case xai_InHand_init=>k_is);(case xli_InHand_init=>k_is);(case xci_InHand_init=>k_is);(case xki_InHand_init=>k_is);(case xai_InHand_called=>k_is)
  (case xli_InHand_called=>k_is);(case xci_InHand_called=>k_is);(case xki_InHand_called=>k_is);(case xai_InHand_says=>k_is);(case xli_InHand_says=>k_is);(case xci_InHand_says=>k_is)
  (case xki_InHand_says=>k_is);(case xai_InHand_find=>k_is);(case xli_InHand_find=>k_is);(case xci_InHand_find=>k_is);(case xki_InHand_find=>k_is);(case xai_InHand_between=>k_is)
  (case xli_InHand_between=>k_is);(case xci_InHand_between=>k_is);(case xki_InHand_between=>k_is);(case xai_InRun_init=>k_is);(case xli_InRun_init=>k_is);(case xci_InRun_init=>k_is)
  (case xki_InRun_init=>k_is);(case xai_InRun_called=>k_is);(case xli_InRun_called=>k_is);(case xci_InRun_called=>k_is);(case xki_InRun_called=>k_is);(case xai_InRun_says=>k_is)
  (case xli_InRun_says=>k_is);(case xci_InRun_says=>k_is);(case xki_InRun_says=>k_is);(case xai_InRun_find=>k_is);(case xli_InRun_find=>k_is);(case xci_InRun_find=>k_is)
  (case xki_InRun_find=>k_is);(case xai_InRun_between=>k_is);(case xli_InRun_between=>k_is);(case xci_InRun_between=>k_is);(case xki_InRun_between=>k_is);(case xai_Hand_init=>k_is)
  (case xli_Hand_init=>k_is);(case xci_Hand_init=>k_is);(case xki_Hand_init=>k_is);(case xai_Hand_put=>k_is);(case xli_Hand_put=>k_is);(case xci_Hand_put=>k_is)
  (case xki_Hand_put=>k_is);(case xai_Hand_find=>k_is);(case xli_Hand_find=>k_is);(case xci_Hand_find=>k_is);(case xki_Hand_find=>k_is);(case xai_Hand_rows=>k_is)
  (case xli_Hand_rows=>k_is);(case xci_Hand_rows=>k_is);(case xki_Hand_rows=>k_is);(case xai_Hand_between=>k_is);(case xli_Hand_between=>k_is);(case xci_Hand_between=>k_is)
  (case xki_Hand_between=>k_is);(case xti_Hand_between=>k_is);(case xallc=>kernel_rfl)
